/- The walk of the document's Sound. The walk of the document's sameness of data. What joins say, of lists as they are. Walks of the document's lists. Walks of the document's Of, Reverse, Tail and Append. The walk of the law of joined lists. The walk of the law of lists that are made. What a bound on the bulk of what is read gives. Transcoders that come in as arguments. Rows of bytes that come in as arguments; the first part of a row, and of a text. Data that come in as arguments. -/
import Derived.Test.YtbnjomifogjdfaaGreatDoorPlistsm9g
import Derived.Test.YtbnjomifogjdfaaGreatDoorPlistsm9f
import Derived.Test.YtbnjomifogjdfaaGreatDoorRows
import Derived.Test.YtbnjomifogjdfaaGreatDoorPlistsm9d
import Derived.Test.YtbnjomifogjdfaaGreatDoorProg
import Derived.WalkKit
import Derived.ProofKit
import Derived.OpenShut
import Derived.ChangeOld
import Derived.Lib.SmallJoins
import Derived.Deep.Strs
import Derived.Test.YtbnjomifogjdfaaGreatDoorPlistsm9c
import Derived.Deep.Slices
namespace Go.Proofs.YtbnjomifogjdfaaGreatDoor.G
open Go.RowKit
set_option linter.unusedVariables false
set_option linter.unusedSimpArgs false
set_option maxRecDepth 100000
theorem TrW_is1_22 : Is1 Tryz.prog 22 := ⟨⟨_, Tryz.underlying22, rfl⟩, by kernel_rfl⟩
theorem TrW_is1_3 : Is1 Tryz.prog 3 := ⟨⟨_, Tryz.underlying3, rfl⟩, by kernel_rfl⟩
theorem TrW_fld_30_0 : FieldAt Tryz.prog 30 0 0 := ⟨_, _, Tryz.underlying30, rfl, rfl, by kernel_rfl⟩
theorem TrW_fld_30_5 : FieldAt Tryz.prog 30 5 10 := ⟨_, _, Tryz.underlying30, rfl, rfl, by kernel_rfl⟩
theorem TrW_isS_30 : IsS Tryz.prog 30 11 := ⟨⟨_, Tryz.underlying30⟩, by kernel_rfl⟩
def Counts (t : Dt) : Prop := ∀ {w : World} {dp left : Int}, t.rd w → t.tr.bulk ≤ 4000000 → 0 ≤ left → left ≤ 20000 → 0 ≤ dp → dp ≤ 201 → Calls Tryz.prog 59 #[.agg t.cells.toArray, .int .i64 dp, .int .i64 left] w fun e w' => e = .returned (.int .i64 (cntT shapeT dp left t.tr)) ∧ Below w.heap.size w w'
theorem count_all : ∀ t : Dt, Counts t := Dt.indT fun d ts ih => by
 intro w dp left hrd hbk hl0 hl1 hd0 hd1
 have hok := (Dt.rd_iff.1 hrd)
 have hlen : ts.length ≤ 9223372036854775807 := Nat.le_trans hok.2.1 hok.2.2.1
 have hM : Mg w w ([]) := Mg.start w
 refine walk_of (l := [(0, .agg (d.cells ts.length).toArray), (1, .int .i64 dp), (2, .int .i64 left)]) Tryz.func59 rfl Tryz.ntmps59 rfl rfl ?_
 intro Q hret hnorm hP a hA
 refine wp_seq_k (fun K1 hK1 => ?_)
 refine wp_region_lit ?_
 refine s_new (vs := [.int .i64 d.k, .int .i64 d.n, .bool d.y.q.b1, .slice d.y.o1 d.y.q.t1.length d.y.c1, .slice d.y.o2 d.y.q.q1.length d.y.c2, .bool d.y.q.b2, .slice d.y.o3 d.y.q.t2.length d.y.c3, .slice d.y.o4 d.y.q.q2.length d.y.c4, .string d.s, .slice d.ro d.rl.length d.rc, .slice d.lo ts.length d.lc]) (t := 30) hA hM rfl rfl rfl (fun g => .pointer (some ⟨g, 0, none⟩)) (does_box rfl rfl) (by decide) ?_
 intro g2 w3 hM a hA
 refine seq_do hA rfl rfl rfl (does_assign rfl) ?_
 intro a hA
 refine seq_end ?_
 refine hK1 _ _ ?_
 refine wp_seq_k (fun K4 hK4 => ?_)
 refine wp_seq_k (fun K5 hK5 => ?_)
 refine wp_region_lit ?_
 refine seq_do hA rfl rfl rfl (does_move rfl) ?_
 intro a hA
 rcases Bool.eq_false_or_eq_true (decide (200 < dp)) with hb6 | hb6
 · have hb6' := of_decide_eq_true hb6
   refine seq_do (v := .bool true) hA rfl rfl rfl (does_bin rfl rfl (fun w => (bin_gtr w).trans (by rw [hb6]))) ?_
   intro a hA
   refine seq_do hA rfl rfl rfl (does_move rfl) ?_
   intro a hA
   refine seq_skip hA rfl rfl rfl ?_
   intro a hA
   refine seq_skip hA rfl rfl rfl ?_
   intro a hA
   refine seq_do (v := .bool true) hA rfl rfl rfl (does_pick rfl rfl rfl rfl) ?_
   intro a hA
   refine seq_do hA rfl rfl rfl (does_move rfl) ?_
   intro a hA
   refine seq_skip hA rfl rfl rfl ?_
   intro a hA
   refine seq_skip hA rfl rfl rfl ?_
   intro a hA
   refine seq_skip hA rfl rfl rfl ?_
   intro a hA
   refine seq_do (v := .bool true) hA rfl rfl rfl (does_pick rfl rfl rfl rfl) ?_
   intro a hA
   refine seq_end ?_
   refine hK5 _ _ ?_
   refine wp_cond_true (hA.ev rfl) ?_
   refine wp_seq_k (fun K7 hK7 => ?_)
   refine wp_region_lit ?_
   refine seq_do hA rfl rfl rfl (does_assign rfl) ?_
   intro a hA
   refine seq_end ?_
   refine hK7 _ _ ?_
   refine wp_ret ?_
   refine hret _ _ ?_
   refine ends (v := .int .i64 (-1)) hA rfl (.cons (res_tmp rfl) .nil) rfl ?_
   rw [cntT_no (by omega)]
   exact ⟨rfl, hM.bel⟩
 · have hb6' := of_decide_eq_false hb6
   refine seq_do (v := .bool false) hA rfl rfl rfl (does_bin rfl rfl (fun w => (bin_gtr w).trans (by rw [hb6]))) ?_
   intro a hA
   refine seq_do hA rfl rfl rfl (does_move rfl) ?_
   intro a hA
   refine seq_do hA rfl rfl rfl (does_move rfl) ?_
   intro a hA
   rcases Bool.eq_false_or_eq_true (decide (left ≤ 0)) with hb8 | hb8
   · have hb8' := of_decide_eq_true hb8
     refine seq_do (v := .bool true) hA rfl rfl rfl (does_bin rfl rfl (fun w => (bin_leq w).trans (by rw [hb8]))) ?_
     intro a hA
     refine seq_do (v := .bool true) hA rfl rfl rfl (does_pick rfl rfl rfl rfl) ?_
     intro a hA
     refine seq_do hA rfl rfl rfl (does_move rfl) ?_
     intro a hA
     refine seq_skip hA rfl rfl rfl ?_
     intro a hA
     refine seq_skip hA rfl rfl rfl ?_
     intro a hA
     refine seq_skip hA rfl rfl rfl ?_
     intro a hA
     refine seq_do (v := .bool true) hA rfl rfl rfl (does_pick rfl rfl rfl rfl) ?_
     intro a hA
     refine seq_end ?_
     refine hK5 _ _ ?_
     refine wp_cond_true (hA.ev rfl) ?_
     refine wp_seq_k (fun K9 hK9 => ?_)
     refine wp_region_lit ?_
     refine seq_do hA rfl rfl rfl (does_assign rfl) ?_
     intro a hA
     refine seq_end ?_
     refine hK9 _ _ ?_
     refine wp_ret ?_
     refine hret _ _ ?_
     refine ends (v := .int .i64 (-1)) hA rfl (.cons (res_tmp rfl) .nil) rfl ?_
     rw [cntT_no (by omega)]
     exact ⟨rfl, hM.bel⟩
   · have hb8' := of_decide_eq_false hb8
     refine seq_do (v := .bool false) hA rfl rfl rfl (does_bin rfl rfl (fun w => (bin_leq w).trans (by rw [hb8]))) ?_
     intro a hA
     refine seq_do (v := .bool false) hA rfl rfl rfl (does_pick rfl rfl rfl rfl) ?_
     intro a hA
     refine seq_do hA rfl rfl rfl (does_move rfl) ?_
     intro a hA
     refine seq_do hA rfl rfl rfl (m_loadS hM TrW_isS_30 rfl 0 rfl (cs := [.int .i64 d.k, .int .i64 d.n, .bool d.y.q.b1, .slice d.y.o1 d.y.q.t1.length d.y.c1, .slice d.y.o2 d.y.q.q1.length d.y.c2, .bool d.y.q.b2, .slice d.y.o3 d.y.q.t2.length d.y.c3, .slice d.y.o4 d.y.q.q2.length d.y.c4, .string d.s, .slice d.ro d.rl.length d.rc, .slice d.lo ts.length d.lc]) rfl rfl) ?_
     intro a hA
     rcases Bool.eq_false_or_eq_true (shapeB d.k d.n d.y.q d.s d.rl.length ts.length) with hb10 | hb10
     · refine seq_call hA rfl rfl rfl (enters_func rfl rfl (fun w => by kernel_rfl)) (rshape_any (hok.1.below hM.bel) (Nat.le_trans bulk_text hbk) hlen hb10) ?_
       rintro _ w12 ⟨rfl, hb11⟩
       replace hM := hM.call hb11
       refine ⟨_, rfl, ?_⟩
       intro a hA
       refine seq_do (v := .bool false) hA rfl rfl rfl (does_un rfl un_not) ?_
       intro a hA
       refine seq_do (v := .bool false) hA rfl rfl rfl (does_pick rfl rfl rfl rfl) ?_
       intro a hA
       refine seq_end ?_
       refine hK5 _ _ ?_
       refine wp_cond_false (hA.ev rfl) ?_
       refine wp_skip ?_
       refine hK4 _ _ ?_
       refine wp_seq_k (fun K13 hK13 => ?_)
       refine wp_region_lit ?_
       refine seq_do hA rfl rfl rfl (does_move rfl) ?_
       intro a hA
       refine seq_do (v := .int .i64 (left - 1)) hA rfl rfl rfl (does_bin rfl rfl (bin_sub (i64In (by omega) (by omega)))) ?_
       intro a hA
       refine seq_do hA rfl rfl rfl (does_assign rfl) ?_
       intro a hA
       refine seq_end ?_
       refine hK13 _ _ ?_
       refine wp_seq_k (fun K14 hK14 => ?_)
       refine wp_seq_k (fun K15 hK15 => ?_)
       refine wp_region_lit ?_
       refine seq_do hA rfl rfl rfl (does_assign rfl) ?_
       intro a hA
       refine seq_end ?_
       refine hK15 _ _ ?_
       refine wp_block ?_
       refine wp_loop_n (fun m_ a w1 => ∃ (i : Nat) (m : Int), m_ = 1 + (ts.length - i) ∧ (i ≤ ts.length ∧ cntL shapeT dp (decide (d.k = 8)) 0 (left - 1) ((ts.map Dt.tr).drop 0) = cntL shapeT dp (decide (d.k = 8)) i m ((ts.map Dt.tr).drop i) ∧ -1 ≤ m ∧ m ≤ 20000) ∧ Sl a 52 [(0, .agg (d.cells ts.length).toArray), (1, .int .i64 dp), (2, .int .i64 m), (3, .pointer (some ⟨g2, 0, none⟩)), (6, .int .i64 0), (7, .int .i64 (((i : Nat) : Int))), (9, .int .i64 dp), (10, .bool false), (11, .bool false), (12, .int .i64 left), (13, .bool false), (14, .bool false), (15, .bool false), (16, .agg (d.cells ts.length).toArray), (17, .bool true), (18, .bool false), (19, .bool false), (20, .int .i64 left), (21, .int .i64 (left - 1))] ∧ Mg w w1 (.obj g2 (.cells (d.cells ts.length).toArray 30) :: [])) _ ⟨0, left - 1, rfl, ⟨Nat.zero_le _, rfl, by omega, by omega⟩, hA.keep _ ⟨rfl, rfl, rfl, rfl, rfl, rfl, rfl, rfl, rfl, rfl, rfl, rfl, rfl, rfl, rfl, rfl, rfl, rfl, rfl, trivial⟩, hM⟩ ?_
       clear hM hA
       rintro m_ a w16 ⟨i, m, rfl, hinv18, hA, hM⟩ K17 hK17
       obtain ⟨hi0, hin9, hm0, hm1_⟩ := hinv18
       refine wp_seq_k (fun K19 hK19 => ?_)
       refine wp_seq_k (fun K20 hK20 => ?_)
       refine wp_region_lit ?_
       refine seq_do hA rfl rfl rfl (does_move rfl) ?_
       intro a hA
       refine seq_do (v := .pointer (some ⟨g2, 10, none⟩)) hA rfl rfl rfl (does_field TrW_fld_30_5 rfl rfl) ?_
       intro a hA
       refine seq_do hA rfl rfl rfl (m_load1 hM TrW_is1_22 rfl 0 rfl rfl) ?_
       intro a hA
       refine seq_do (v := .int .i64 (((ts.length : Nat) : Int))) hA rfl rfl rfl (does_len Tryz.underlying22 rfl) ?_
       intro a hA
       rcases Bool.eq_false_or_eq_true (decide (((i : Nat) : Int) < ((ts.length : Nat) : Int))) with hb21 | hb21
       · have hb21' := of_decide_eq_true hb21
         refine seq_do (v := .bool true) hA rfl rfl rfl (does_bin rfl rfl (fun w => (bin_lss w).trans (by rw [hb21]))) ?_
         intro a hA
         refine seq_do hA rfl rfl rfl (does_move rfl) ?_
         intro a hA
         refine seq_do hA rfl rfl rfl (does_move rfl) ?_
         intro a hA
         rcases Bool.eq_false_or_eq_true (decide (0 ≤ m)) with hb22 | hb22
         · have hb22' := of_decide_eq_true hb22
           refine seq_do (v := .bool true) hA rfl rfl rfl (does_bin rfl rfl (fun w => (bin_geq w).trans (by rw [hb22]))) ?_
           intro a hA
           refine seq_do (v := .bool true) hA rfl rfl rfl (does_pick rfl rfl rfl rfl) ?_
           intro a hA
           refine seq_end ?_
           refine hK20 _ _ ?_
           refine wp_cond_true (hA.ev rfl) ?_
           refine wp_skip ?_
           refine hK19 _ _ ?_
           refine wp_seq_k (fun K23 hK23 => ?_)
           refine wp_block ?_
           refine wp_seq_k (fun K24 hK24 => ?_)
           refine wp_region_lit ?_
           refine seq_do hA rfl rfl rfl (does_move rfl) ?_
           intro a hA
           refine seq_do (v := .int .i64 (dp + 1)) hA rfl rfl rfl (does_bin rfl rfl (bin_add (i64In (by omega) (by omega)))) ?_
           intro a hA
           refine seq_do hA rfl rfl rfl (does_assign rfl) ?_
           intro a hA
           refine seq_end ?_
           refine hK24 _ _ ?_
           refine wp_seq_k (fun K25 hK25 => ?_)
           refine wp_seq_k (fun K26 hK26 => ?_)
           refine wp_region_lit ?_
           refine seq_do (v := .pointer (some ⟨g2, 0, none⟩)) hA rfl rfl rfl (does_field TrW_fld_30_0 rfl rfl) ?_
           intro a hA
           refine seq_do hA rfl rfl rfl (m_load1 hM TrW_is1_3 rfl 0 rfl rfl) ?_
           intro a hA
           rcases Bool.eq_false_or_eq_true ((d.k == 8)) with hb27 | hb27
           · have hb27' := eq_of_beq hb27
             refine seq_do (v := .bool true) hA rfl rfl rfl (does_bin rfl rfl (fun w => (bin_eql w).trans (by rw [hb27]))) ?_
             intro a hA
             refine seq_do hA rfl rfl rfl (does_move rfl) ?_
             intro a hA
             refine seq_do hA rfl rfl rfl (does_move rfl) ?_
             intro a hA
             rcases Bool.eq_false_or_eq_true ((((i : Nat) : Int) == 1)) with hb28 | hb28
             · have hb28' := eq_of_beq hb28
               refine seq_do (v := .bool true) hA rfl rfl rfl (does_bin rfl rfl (fun w => (bin_eql w).trans (by rw [hb28]))) ?_
               intro a hA
               refine seq_do (v := .bool true) hA rfl rfl rfl (does_pick rfl rfl rfl rfl) ?_
               intro a hA
               refine seq_end ?_
               refine hK26 _ _ ?_
               refine wp_cond_true (hA.ev rfl) ?_
               refine wp_region_lit ?_
               refine seq_do hA rfl rfl rfl (does_move rfl) ?_
               intro a hA
               refine seq_do hA rfl rfl rfl (does_assign rfl) ?_
               intro a hA
               refine seq_end ?_
               refine hK25 _ _ ?_
               obtain ⟨t1, b1, o1, hi1, hm1, hr1, hl1, hH1⟩ := kid hrd (i := i) (by omega)
               have hD : (if decide (d.k = 8) = true ∧ i = 1 then dp else dp + 1) = dp := if_pos ⟨decide_eq_true hb27', by omega⟩
               refine wp_region_lit ?_
               refine seq_do (v := .pointer (some ⟨g2, 10, none⟩)) hA rfl rfl rfl (does_field TrW_fld_30_5 rfl rfl) ?_
               intro a hA
               refine seq_do hA rfl rfl rfl (m_load1 hM TrW_is1_22 rfl 0 rfl rfl) ?_
               intro a hA
               refine seq_do hA rfl rfl rfl (does_move rfl) ?_
               intro a hA
               refine seq_do (v := .pointer (some ⟨b1, o1 + i * 11, none⟩)) hA rfl rfl rfl (does_indexD (k := i) Tryz.underlying22 (by kernel_rfl) rfl rfl rfl hl1 (by omega)) ?_
               intro a hA
               refine seq_do hA rfl rfl rfl (m_loadHS hM hH1 TrW_isS_30 rfl rfl) ?_
               intro a hA
               refine seq_do hA rfl rfl rfl (does_move rfl) ?_
               intro a hA
               refine seq_do hA rfl rfl rfl (does_move rfl) ?_
               intro a hA
               refine seq_call hA rfl rfl rfl (enters_func rfl rfl (fun w => by kernel_rfl)) (ih t1 hm1 (Dt.keep hM.bel _ hr1) (by have := bulk_kid (d := d) hm1; omega) (by omega) (by omega) (by omega) (by omega)) ?_
               rintro _ w30 ⟨rfl, hb29⟩
               replace hM := hM.call hb29
               refine ⟨_, rfl, ?_⟩
               intro a hA
               refine seq_do hA rfl rfl rfl (does_assign rfl) ?_
               intro a hA
               refine seq_end ?_
               refine hK23 _ _ ?_
               refine wp_region_lit ?_
               refine seq_do hA rfl rfl rfl (does_move rfl) ?_
               intro a hA
               refine seq_do (v := .int .i64 (((i + 1 : Nat) : Int))) hA rfl rfl rfl (does_bin rfl rfl (fun w => (bin_add (i64In (by omega) (by omega)) w).trans (by rw [show (((i : Nat) : Int) + 1 : Int) = ((i + 1 : Nat) : Int) from by omega]))) ?_
               intro a hA
               refine seq_do hA rfl rfl rfl (does_assign rfl) ?_
               intro a hA
               refine seq_end ?_
               have hc9 := cnt_le shapeT t1.tr (dp) m (by omega)
               refine hK17 _ _ _ (by omega) ⟨i + 1, cntT shapeT (dp) m t1.tr, rfl, ⟨by omega, by rw [hin9, cntL_go hi1 (by omega) hD], by omega, by omega⟩, hA.keep _ ⟨rfl, rfl, rfl, rfl, rfl, rfl, rfl, rfl, rfl, rfl, rfl, rfl, rfl, rfl, rfl, rfl, rfl, rfl, rfl, trivial⟩, hM⟩
             · have hb28' := ne_of_beq_false hb28
               refine seq_do (v := .bool false) hA rfl rfl rfl (does_bin rfl rfl (fun w => (bin_eql w).trans (by rw [hb28]))) ?_
               intro a hA
               refine seq_do (v := .bool false) hA rfl rfl rfl (does_pick rfl rfl rfl rfl) ?_
               intro a hA
               refine seq_end ?_
               refine hK26 _ _ ?_
               refine wp_cond_false (hA.ev rfl) ?_
               refine wp_skip ?_
               refine hK25 _ _ ?_
               obtain ⟨t1, b1, o1, hi1, hm1, hr1, hl1, hH1⟩ := kid hrd (i := i) (by omega)
               have hD : (if decide (d.k = 8) = true ∧ i = 1 then dp else dp + 1) = dp + 1 := if_neg (fun e => by omega)
               refine wp_region_lit ?_
               refine seq_do (v := .pointer (some ⟨g2, 10, none⟩)) hA rfl rfl rfl (does_field TrW_fld_30_5 rfl rfl) ?_
               intro a hA
               refine seq_do hA rfl rfl rfl (m_load1 hM TrW_is1_22 rfl 0 rfl rfl) ?_
               intro a hA
               refine seq_do hA rfl rfl rfl (does_move rfl) ?_
               intro a hA
               refine seq_do (v := .pointer (some ⟨b1, o1 + i * 11, none⟩)) hA rfl rfl rfl (does_indexD (k := i) Tryz.underlying22 (by kernel_rfl) rfl rfl rfl hl1 (by omega)) ?_
               intro a hA
               refine seq_do hA rfl rfl rfl (m_loadHS hM hH1 TrW_isS_30 rfl rfl) ?_
               intro a hA
               refine seq_do hA rfl rfl rfl (does_move rfl) ?_
               intro a hA
               refine seq_do hA rfl rfl rfl (does_move rfl) ?_
               intro a hA
               refine seq_call hA rfl rfl rfl (enters_func rfl rfl (fun w => by kernel_rfl)) (ih t1 hm1 (Dt.keep hM.bel _ hr1) (by have := bulk_kid (d := d) hm1; omega) (by omega) (by omega) (by omega) (by omega)) ?_
               rintro _ w32 ⟨rfl, hb31⟩
               replace hM := hM.call hb31
               refine ⟨_, rfl, ?_⟩
               intro a hA
               refine seq_do hA rfl rfl rfl (does_assign rfl) ?_
               intro a hA
               refine seq_end ?_
               refine hK23 _ _ ?_
               refine wp_region_lit ?_
               refine seq_do hA rfl rfl rfl (does_move rfl) ?_
               intro a hA
               refine seq_do (v := .int .i64 (((i + 1 : Nat) : Int))) hA rfl rfl rfl (does_bin rfl rfl (fun w => (bin_add (i64In (by omega) (by omega)) w).trans (by rw [show (((i : Nat) : Int) + 1 : Int) = ((i + 1 : Nat) : Int) from by omega]))) ?_
               intro a hA
               refine seq_do hA rfl rfl rfl (does_assign rfl) ?_
               intro a hA
               refine seq_end ?_
               have hc9 := cnt_le shapeT t1.tr (dp + 1) m (by omega)
               refine hK17 _ _ _ (by omega) ⟨i + 1, cntT shapeT (dp + 1) m t1.tr, rfl, ⟨by omega, by rw [hin9, cntL_go hi1 (by omega) hD], by omega, by omega⟩, hA.keep _ ⟨rfl, rfl, rfl, rfl, rfl, rfl, rfl, rfl, rfl, rfl, rfl, rfl, rfl, rfl, rfl, rfl, rfl, rfl, rfl, trivial⟩, hM⟩
           · have hb27' := ne_of_beq_false hb27
             refine seq_do (v := .bool false) hA rfl rfl rfl (does_bin rfl rfl (fun w => (bin_eql w).trans (by rw [hb27]))) ?_
             intro a hA
             refine seq_do hA rfl rfl rfl (does_move rfl) ?_
             intro a hA
             refine seq_skip hA rfl rfl rfl ?_
             intro a hA
             refine seq_skip hA rfl rfl rfl ?_
             intro a hA
             refine seq_do (v := .bool false) hA rfl rfl rfl (does_pick rfl rfl rfl rfl) ?_
             intro a hA
             refine seq_end ?_
             refine hK26 _ _ ?_
             refine wp_cond_false (hA.ev rfl) ?_
             refine wp_skip ?_
             refine hK25 _ _ ?_
             obtain ⟨t1, b1, o1, hi1, hm1, hr1, hl1, hH1⟩ := kid hrd (i := i) (by omega)
             have hD : (if decide (d.k = 8) = true ∧ i = 1 then dp else dp + 1) = dp + 1 := if_neg (fun e => hb27' (of_decide_eq_true e.1))
             refine wp_region_lit ?_
             refine seq_do (v := .pointer (some ⟨g2, 10, none⟩)) hA rfl rfl rfl (does_field TrW_fld_30_5 rfl rfl) ?_
             intro a hA
             refine seq_do hA rfl rfl rfl (m_load1 hM TrW_is1_22 rfl 0 rfl rfl) ?_
             intro a hA
             refine seq_do hA rfl rfl rfl (does_move rfl) ?_
             intro a hA
             refine seq_do (v := .pointer (some ⟨b1, o1 + i * 11, none⟩)) hA rfl rfl rfl (does_indexD (k := i) Tryz.underlying22 (by kernel_rfl) rfl rfl rfl hl1 (by omega)) ?_
             intro a hA
             refine seq_do hA rfl rfl rfl (m_loadHS hM hH1 TrW_isS_30 rfl rfl) ?_
             intro a hA
             refine seq_do hA rfl rfl rfl (does_move rfl) ?_
             intro a hA
             refine seq_do hA rfl rfl rfl (does_move rfl) ?_
             intro a hA
             refine seq_call hA rfl rfl rfl (enters_func rfl rfl (fun w => by kernel_rfl)) (ih t1 hm1 (Dt.keep hM.bel _ hr1) (by have := bulk_kid (d := d) hm1; omega) (by omega) (by omega) (by omega) (by omega)) ?_
             rintro _ w34 ⟨rfl, hb33⟩
             replace hM := hM.call hb33
             refine ⟨_, rfl, ?_⟩
             intro a hA
             refine seq_do hA rfl rfl rfl (does_assign rfl) ?_
             intro a hA
             refine seq_end ?_
             refine hK23 _ _ ?_
             refine wp_region_lit ?_
             refine seq_do hA rfl rfl rfl (does_move rfl) ?_
             intro a hA
             refine seq_do (v := .int .i64 (((i + 1 : Nat) : Int))) hA rfl rfl rfl (does_bin rfl rfl (fun w => (bin_add (i64In (by omega) (by omega)) w).trans (by rw [show (((i : Nat) : Int) + 1 : Int) = ((i + 1 : Nat) : Int) from by omega]))) ?_
             intro a hA
             refine seq_do hA rfl rfl rfl (does_assign rfl) ?_
             intro a hA
             refine seq_end ?_
             have hc9 := cnt_le shapeT t1.tr (dp + 1) m (by omega)
             refine hK17 _ _ _ (by omega) ⟨i + 1, cntT shapeT (dp + 1) m t1.tr, rfl, ⟨by omega, by rw [hin9, cntL_go hi1 (by omega) hD], by omega, by omega⟩, hA.keep _ ⟨rfl, rfl, rfl, rfl, rfl, rfl, rfl, rfl, rfl, rfl, rfl, rfl, rfl, rfl, rfl, rfl, rfl, rfl, rfl, trivial⟩, hM⟩
         · have hb22' := of_decide_eq_false hb22
           refine seq_do (v := .bool false) hA rfl rfl rfl (does_bin rfl rfl (fun w => (bin_geq w).trans (by rw [hb22]))) ?_
           intro a hA
           refine seq_do (v := .bool false) hA rfl rfl rfl (does_pick rfl rfl rfl rfl) ?_
           intro a hA
           refine seq_end ?_
           refine hK20 _ _ ?_
           refine wp_cond_false (hA.ev rfl) ?_
           refine wp_exit ?_
           refine hK14 _ _ ?_
           refine wp_seq_k (fun K35 hK35 => ?_)
           refine wp_region_lit ?_
           refine seq_do hA rfl rfl rfl (does_move rfl) ?_
           intro a hA
           refine seq_do hA rfl rfl rfl (does_assign rfl) ?_
           intro a hA
           refine seq_end ?_
           refine hK35 _ _ ?_
           refine wp_ret ?_
           refine hret _ _ ?_
           refine ends (v := .int .i64 m) hA rfl (.cons (res_tmp rfl) .nil) rfl ?_
           rw [cntT_mk (by omega) (by omega) (by rw [shapeT_mk]; exact hb10), hin9, cntL_neg (by omega)]
           exact ⟨rfl, hM.bel⟩
       · have hb21' := of_decide_eq_false hb21
         refine seq_do (v := .bool false) hA rfl rfl rfl (does_bin rfl rfl (fun w => (bin_lss w).trans (by rw [hb21]))) ?_
         intro a hA
         refine seq_do hA rfl rfl rfl (does_move rfl) ?_
         intro a hA
         refine seq_skip hA rfl rfl rfl ?_
         intro a hA
         refine seq_skip hA rfl rfl rfl ?_
         intro a hA
         refine seq_do (v := .bool false) hA rfl rfl rfl (does_pick rfl rfl rfl rfl) ?_
         intro a hA
         refine seq_end ?_
         refine hK20 _ _ ?_
         refine wp_cond_false (hA.ev rfl) ?_
         refine wp_exit ?_
         refine hK14 _ _ ?_
         refine wp_seq_k (fun K36 hK36 => ?_)
         refine wp_region_lit ?_
         refine seq_do hA rfl rfl rfl (does_move rfl) ?_
         intro a hA
         refine seq_do hA rfl rfl rfl (does_assign rfl) ?_
         intro a hA
         refine seq_end ?_
         refine hK36 _ _ ?_
         refine wp_ret ?_
         refine hret _ _ ?_
         refine ends (v := .int .i64 m) hA rfl (.cons (res_tmp rfl) .nil) rfl ?_
         rw [cntT_mk (by omega) (by omega) (by rw [shapeT_mk]; exact hb10), hin9, drop_kids (by omega), cntL]
         exact ⟨rfl, hM.bel⟩
     · refine seq_call hA rfl rfl rfl (enters_func rfl rfl (fun w => by kernel_rfl)) (rshape_any (hok.1.below hM.bel) (Nat.le_trans bulk_text hbk) hlen hb10) ?_
       rintro _ w38 ⟨rfl, hb37⟩
       replace hM := hM.call hb37
       refine ⟨_, rfl, ?_⟩
       intro a hA
       refine seq_do (v := .bool true) hA rfl rfl rfl (does_un rfl un_not) ?_
       intro a hA
       refine seq_do (v := .bool true) hA rfl rfl rfl (does_pick rfl rfl rfl rfl) ?_
       intro a hA
       refine seq_end ?_
       refine hK5 _ _ ?_
       refine wp_cond_true (hA.ev rfl) ?_
       refine wp_seq_k (fun K39 hK39 => ?_)
       refine wp_region_lit ?_
       refine seq_do hA rfl rfl rfl (does_assign rfl) ?_
       intro a hA
       refine seq_end ?_
       refine hK39 _ _ ?_
       refine wp_ret ?_
       refine hret _ _ ?_
       refine ends (v := .int .i64 (-1)) hA rfl (.cons (res_tmp rfl) .nil) rfl ?_
       rw [cntT_no (.inr (.inr (by rw [shapeT_mk]; exact hb10)))]
       exact ⟨rfl, hM.bel⟩
theorem rsound_mk {w : World} {d : Nd} {ts : List Dt} (hrd : (Dt.mk d ts).rd w) (hbk : (Dt.mk d ts).tr.bulk ≤ 4000000) : Calls Tryz.prog 31 #[.agg (d.cells ts.length).toArray] w fun e w' => e = .returned (.bool (soundT shapeT (Dt.mk d ts).tr)) ∧ Below w.heap.size w w' := by
 have hM : Mg w w ([]) := Mg.start w
 refine walk_of (l := [(0, .agg (d.cells ts.length).toArray)]) Tryz.func31 rfl Tryz.ntmps31 rfl rfl ?_
 intro Q hret hnorm hP a hA
 refine wp_seq_k (fun K1 hK1 => ?_)
 refine wp_region_lit ?_
 refine s_new (vs := [.int .i64 d.k, .int .i64 d.n, .bool d.y.q.b1, .slice d.y.o1 d.y.q.t1.length d.y.c1, .slice d.y.o2 d.y.q.q1.length d.y.c2, .bool d.y.q.b2, .slice d.y.o3 d.y.q.t2.length d.y.c3, .slice d.y.o4 d.y.q.q2.length d.y.c4, .string d.s, .slice d.ro d.rl.length d.rc, .slice d.lo ts.length d.lc]) (t := 30) hA hM rfl rfl rfl (fun g => .pointer (some ⟨g, 0, none⟩)) (does_box rfl rfl) (by decide) ?_
 intro g2 w3 hM a hA
 refine seq_do hA rfl rfl rfl (does_assign rfl) ?_
 intro a hA
 refine seq_end ?_
 refine hK1 _ _ ?_
 refine wp_seq_k (fun K4 hK4 => ?_)
 refine wp_region_lit ?_
 refine seq_do hA rfl rfl rfl (m_loadS hM TrW_isS_30 rfl 0 rfl (cs := [.int .i64 d.k, .int .i64 d.n, .bool d.y.q.b1, .slice d.y.o1 d.y.q.t1.length d.y.c1, .slice d.y.o2 d.y.q.q1.length d.y.c2, .bool d.y.q.b2, .slice d.y.o3 d.y.q.t2.length d.y.c3, .slice d.y.o4 d.y.q.q2.length d.y.c4, .string d.s, .slice d.ro d.rl.length d.rc, .slice d.lo ts.length d.lc]) rfl rfl) ?_
 intro a hA
 refine seq_call hA rfl rfl rfl (enters_func rfl rfl (fun w => by kernel_rfl)) (count_all (Dt.mk d ts) (Dt.keep hM.bel _ hrd) hbk (by omega) (by omega) (by omega) (by omega)) ?_
 rintro _ w5 ⟨rfl, hb9⟩
 replace hM := hM.call hb9
 refine ⟨_, rfl, ?_⟩
 intro a hA
 refine seq_do (v := .bool (decide (0 ≤ cntT shapeT 1 20000 (Dt.mk d ts).tr))) hA rfl rfl rfl (does_bin rfl rfl bin_geq) ?_
 intro a hA
 refine seq_do hA rfl rfl rfl (does_assign rfl) ?_
 intro a hA
 refine seq_end ?_
 refine hK4 _ _ ?_
 refine wp_ret ?_
 refine hret _ _ ?_
 refine ends (v := .bool (decide (0 ≤ cntT shapeT 1 20000 (Dt.mk d ts).tr))) hA rfl (.cons (res_tmp rfl) .nil) rfl ?_
 exact ⟨by rw [← count_sound], hM.bel⟩
theorem rsound_any {w : World} {t : Dt} (hrd : t.rd w) (hbk : t.tr.bulk ≤ 4000000) : Calls Tryz.prog 31 #[.agg t.cells.toArray] w fun e w' => e = .returned (.bool (soundT shapeT t.tr)) ∧ Below w.heap.size w w' := by
  obtain ⟨d, ts⟩ := t
  exact rsound_mk hrd hbk
end Go.Proofs.YtbnjomifogjdfaaGreatDoor.G
namespace Go.Proofs.YtbnjomifogjdfaaGreatDoor.G
open Go.RowKit
set_option linter.unusedVariables false
set_option linter.unusedSimpArgs false
set_option maxRecDepth 100000
theorem LiS_is1_22 : Is1 Tryz.prog 22 := ⟨⟨_, Tryz.underlying22, rfl⟩, by kernel_rfl⟩
theorem LiS_is1_28 : Is1 Tryz.prog 28 := ⟨⟨_, Tryz.underlying28, rfl⟩, by kernel_rfl⟩
theorem LiS_is1_3 : Is1 Tryz.prog 3 := ⟨⟨_, Tryz.underlying3, rfl⟩, by kernel_rfl⟩
theorem LiS_is1_5 : Is1 Tryz.prog 5 := ⟨⟨_, Tryz.underlying5, rfl⟩, by kernel_rfl⟩
theorem LiS_is1_9 : Is1 Tryz.prog 9 := ⟨⟨_, Tryz.underlying9, rfl⟩, by kernel_rfl⟩
theorem LiS_fld_30_0 : FieldAt Tryz.prog 30 0 0 := ⟨_, _, Tryz.underlying30, rfl, rfl, by kernel_rfl⟩
theorem LiS_fld_30_1 : FieldAt Tryz.prog 30 1 1 := ⟨_, _, Tryz.underlying30, rfl, rfl, by kernel_rfl⟩
theorem LiS_fld_30_2 : FieldAt Tryz.prog 30 2 2 := ⟨_, _, Tryz.underlying30, rfl, rfl, by kernel_rfl⟩
theorem LiS_fld_30_3 : FieldAt Tryz.prog 30 3 8 := ⟨_, _, Tryz.underlying30, rfl, rfl, by kernel_rfl⟩
theorem LiS_fld_30_4 : FieldAt Tryz.prog 30 4 9 := ⟨_, _, Tryz.underlying30, rfl, rfl, by kernel_rfl⟩
theorem LiS_fld_30_5 : FieldAt Tryz.prog 30 5 10 := ⟨_, _, Tryz.underlying30, rfl, rfl, by kernel_rfl⟩
theorem LiS_isS_27 : IsS Tryz.prog 27 6 := ⟨⟨_, Tryz.underlying27⟩, by kernel_rfl⟩
theorem LiS_isS_30 : IsS Tryz.prog 30 11 := ⟨⟨_, Tryz.underlying30⟩, by kernel_rfl⟩
theorem alikeD_any {w : World} {t u : Dt} (ht : t.rd w) (hu : u.rd w) {b : Bool} (h : SQ2 t u = b) : Calls Tryz.prog 46 #[t.d.y.val, u.d.y.val] w fun e w' => e = .returned (.bool b) ∧ Below w.heap.size w w' := alikeQ_any (Dt.okT ht).1.num (Dt.okT ht).1.len (Dt.okT hu).1.num (Dt.okT hu).1.len h
def RSames (n : Nat) : Prop := ∀ {w : World} {t u : Dt}, t.tr.bulk < n → t.rd w → u.rd w → Calls Tryz.prog 17 #[.agg (t.d.cells t.ts.length).toArray, .agg (u.d.cells u.ts.length).toArray] w fun e w' => e = .returned (.bool (sameT t.tr u.tr)) ∧ Below w.heap.size w w'
set_option maxHeartbeats 1000000 in
theorem rsames_step {n : Nat} (ih : RSames n) : RSames (n + 1) := by
 intro w t u hn ht hu
 have hlt := (Dt.okT ht).2
 have hrt : t.d.rl.length ≤ 9223372036854775807 := Nat.le_trans (Dt.okT ht).1.rcap (Dt.okT ht).1.rmax
 have hM : Mg w w ([]) := Mg.start w
 refine walk_of (l := [(0, .agg (t.d.cells t.ts.length).toArray), (1, .agg (u.d.cells u.ts.length).toArray)]) Tryz.func17 rfl Tryz.ntmps17 rfl rfl ?_
 intro Q hret hnorm hP a hA
 refine wp_seq_k (fun K1 hK1 => ?_)
 refine wp_region_lit ?_
 refine s_new (vs := [.int .i64 t.d.k, .int .i64 t.d.n, .bool t.d.y.q.b1, .slice t.d.y.o1 t.d.y.q.t1.length t.d.y.c1, .slice t.d.y.o2 t.d.y.q.q1.length t.d.y.c2, .bool t.d.y.q.b2, .slice t.d.y.o3 t.d.y.q.t2.length t.d.y.c3, .slice t.d.y.o4 t.d.y.q.q2.length t.d.y.c4, .string t.d.s, .slice t.d.ro t.d.rl.length t.d.rc, .slice t.d.lo t.ts.length t.d.lc]) (t := 30) hA hM rfl rfl rfl (fun g => .pointer (some ⟨g, 0, none⟩)) (does_box rfl rfl) (by decide) ?_
 intro g2 w3 hM a hA
 refine s_new (vs := [.int .i64 u.d.k, .int .i64 u.d.n, .bool u.d.y.q.b1, .slice u.d.y.o1 u.d.y.q.t1.length u.d.y.c1, .slice u.d.y.o2 u.d.y.q.q1.length u.d.y.c2, .bool u.d.y.q.b2, .slice u.d.y.o3 u.d.y.q.t2.length u.d.y.c3, .slice u.d.y.o4 u.d.y.q.q2.length u.d.y.c4, .string u.d.s, .slice u.d.ro u.d.rl.length u.d.rc, .slice u.d.lo u.ts.length u.d.lc]) (t := 30) hA hM rfl rfl rfl (fun g => .pointer (some ⟨g, 0, none⟩)) (does_box rfl rfl) (by decide) ?_
 intro g4 w5 hM a hA
 refine seq_do hA rfl rfl rfl (does_assign rfl) ?_
 intro a hA
 refine seq_end ?_
 refine hK1 _ _ ?_
 refine wp_seq_k (fun K6 hK6 => ?_)
 refine wp_seq_k (fun K7 hK7 => ?_)
 refine wp_region_lit ?_
 refine seq_do (v := .pointer (some ⟨g2, 0, none⟩)) hA rfl rfl rfl (does_field LiS_fld_30_0 rfl rfl) ?_
 intro a hA
 refine seq_do hA rfl rfl rfl (m_load1 hM LiS_is1_3 rfl 1 rfl rfl) ?_
 intro a hA
 refine seq_do (v := .pointer (some ⟨g4, 0, none⟩)) hA rfl rfl rfl (does_field LiS_fld_30_0 rfl rfl) ?_
 intro a hA
 refine seq_do hA rfl rfl rfl (m_load1 hM LiS_is1_3 rfl 0 rfl rfl) ?_
 intro a hA
 rcases Bool.eq_false_or_eq_true ((t.d.k != u.d.k)) with hb8 | hb8
 · have hb8' := bne_iff_ne.1 hb8
   refine seq_do (v := .bool true) hA rfl rfl rfl (does_bin rfl rfl (fun w => (bin_neq w).trans (by rw [hb8]))) ?_
   intro a hA
   refine seq_do hA rfl rfl rfl (does_move rfl) ?_
   intro a hA
   refine seq_skip hA rfl rfl rfl ?_
   intro a hA
   refine seq_skip hA rfl rfl rfl ?_
   intro a hA
   refine seq_skip hA rfl rfl rfl ?_
   intro a hA
   refine seq_skip hA rfl rfl rfl ?_
   intro a hA
   refine seq_skip hA rfl rfl rfl ?_
   intro a hA
   refine seq_do (v := .bool true) hA rfl rfl rfl (does_pick rfl rfl rfl rfl) ?_
   intro a hA
   refine seq_do hA rfl rfl rfl (does_move rfl) ?_
   intro a hA
   refine seq_skip hA rfl rfl rfl ?_
   intro a hA
   refine seq_skip hA rfl rfl rfl ?_
   intro a hA
   refine seq_skip hA rfl rfl rfl ?_
   intro a hA
   refine seq_skip hA rfl rfl rfl ?_
   intro a hA
   refine seq_skip hA rfl rfl rfl ?_
   intro a hA
   refine seq_do (v := .bool true) hA rfl rfl rfl (does_pick rfl rfl rfl rfl) ?_
   intro a hA
   refine seq_do hA rfl rfl rfl (does_move rfl) ?_
   intro a hA
   refine seq_skip hA rfl rfl rfl ?_
   intro a hA
   refine seq_skip hA rfl rfl rfl ?_
   intro a hA
   refine seq_skip hA rfl rfl rfl ?_
   intro a hA
   refine seq_skip hA rfl rfl rfl ?_
   intro a hA
   refine seq_skip hA rfl rfl rfl ?_
   intro a hA
   refine seq_skip hA rfl rfl rfl ?_
   intro a hA
   refine seq_skip hA rfl rfl rfl ?_
   intro a hA
   refine seq_do (v := .bool true) hA rfl rfl rfl (does_pick rfl rfl rfl rfl) ?_
   intro a hA
   refine seq_do hA rfl rfl rfl (does_move rfl) ?_
   intro a hA
   refine seq_skip hA rfl rfl rfl ?_
   intro a hA
   refine seq_skip hA rfl rfl rfl ?_
   intro a hA
   refine seq_skip hA rfl rfl rfl ?_
   intro a hA
   refine seq_skip hA rfl rfl rfl ?_
   intro a hA
   refine seq_skip hA rfl rfl rfl ?_
   intro a hA
   refine seq_skip hA rfl rfl rfl ?_
   intro a hA
   refine seq_skip hA rfl rfl rfl ?_
   intro a hA
   refine seq_do (v := .bool true) hA rfl rfl rfl (does_pick rfl rfl rfl rfl) ?_
   intro a hA
   refine seq_do hA rfl rfl rfl (does_move rfl) ?_
   intro a hA
   refine seq_skip hA rfl rfl rfl ?_
   intro a hA
   refine seq_skip hA rfl rfl rfl ?_
   intro a hA
   refine seq_skip hA rfl rfl rfl ?_
   intro a hA
   refine seq_skip hA rfl rfl rfl ?_
   intro a hA
   refine seq_skip hA rfl rfl rfl ?_
   intro a hA
   refine seq_skip hA rfl rfl rfl ?_
   intro a hA
   refine seq_do (v := .bool true) hA rfl rfl rfl (does_pick rfl rfl rfl rfl) ?_
   intro a hA
   refine seq_end ?_
   refine hK7 _ _ ?_
   refine wp_cond_true (hA.ev rfl) ?_
   refine wp_seq_k (fun K9 hK9 => ?_)
   refine wp_region_lit ?_
   refine seq_do hA rfl rfl rfl (does_assign rfl) ?_
   intro a hA
   refine seq_end ?_
   refine hK9 _ _ ?_
   refine wp_ret ?_
   refine hret _ _ ?_
   refine ends (v := .bool false) hA rfl (.cons (res_tmp rfl) .nil) rfl ?_
   exact ⟨by rw [same_no (.inl hb8')], hM.bel⟩
 · have hb8' := bne_eq_false_iff_eq.1 hb8
   refine seq_do (v := .bool false) hA rfl rfl rfl (does_bin rfl rfl (fun w => (bin_neq w).trans (by rw [hb8]))) ?_
   intro a hA
   refine seq_do hA rfl rfl rfl (does_move rfl) ?_
   intro a hA
   refine seq_do (v := .pointer (some ⟨g2, 1, none⟩)) hA rfl rfl rfl (does_field LiS_fld_30_1 rfl rfl) ?_
   intro a hA
   refine seq_do hA rfl rfl rfl (m_load1 hM LiS_is1_3 rfl 1 rfl rfl) ?_
   intro a hA
   refine seq_do (v := .pointer (some ⟨g4, 1, none⟩)) hA rfl rfl rfl (does_field LiS_fld_30_1 rfl rfl) ?_
   intro a hA
   refine seq_do hA rfl rfl rfl (m_load1 hM LiS_is1_3 rfl 0 rfl rfl) ?_
   intro a hA
   rcases Bool.eq_false_or_eq_true ((t.d.n != u.d.n)) with hb10 | hb10
   · have hb10' := bne_iff_ne.1 hb10
     refine seq_do (v := .bool true) hA rfl rfl rfl (does_bin rfl rfl (fun w => (bin_neq w).trans (by rw [hb10]))) ?_
     intro a hA
     refine seq_do (v := .bool true) hA rfl rfl rfl (does_pick rfl rfl rfl rfl) ?_
     intro a hA
     refine seq_do hA rfl rfl rfl (does_move rfl) ?_
     intro a hA
     refine seq_skip hA rfl rfl rfl ?_
     intro a hA
     refine seq_skip hA rfl rfl rfl ?_
     intro a hA
     refine seq_skip hA rfl rfl rfl ?_
     intro a hA
     refine seq_skip hA rfl rfl rfl ?_
     intro a hA
     refine seq_skip hA rfl rfl rfl ?_
     intro a hA
     refine seq_do (v := .bool true) hA rfl rfl rfl (does_pick rfl rfl rfl rfl) ?_
     intro a hA
     refine seq_do hA rfl rfl rfl (does_move rfl) ?_
     intro a hA
     refine seq_skip hA rfl rfl rfl ?_
     intro a hA
     refine seq_skip hA rfl rfl rfl ?_
     intro a hA
     refine seq_skip hA rfl rfl rfl ?_
     intro a hA
     refine seq_skip hA rfl rfl rfl ?_
     intro a hA
     refine seq_skip hA rfl rfl rfl ?_
     intro a hA
     refine seq_skip hA rfl rfl rfl ?_
     intro a hA
     refine seq_skip hA rfl rfl rfl ?_
     intro a hA
     refine seq_do (v := .bool true) hA rfl rfl rfl (does_pick rfl rfl rfl rfl) ?_
     intro a hA
     refine seq_do hA rfl rfl rfl (does_move rfl) ?_
     intro a hA
     refine seq_skip hA rfl rfl rfl ?_
     intro a hA
     refine seq_skip hA rfl rfl rfl ?_
     intro a hA
     refine seq_skip hA rfl rfl rfl ?_
     intro a hA
     refine seq_skip hA rfl rfl rfl ?_
     intro a hA
     refine seq_skip hA rfl rfl rfl ?_
     intro a hA
     refine seq_skip hA rfl rfl rfl ?_
     intro a hA
     refine seq_skip hA rfl rfl rfl ?_
     intro a hA
     refine seq_do (v := .bool true) hA rfl rfl rfl (does_pick rfl rfl rfl rfl) ?_
     intro a hA
     refine seq_do hA rfl rfl rfl (does_move rfl) ?_
     intro a hA
     refine seq_skip hA rfl rfl rfl ?_
     intro a hA
     refine seq_skip hA rfl rfl rfl ?_
     intro a hA
     refine seq_skip hA rfl rfl rfl ?_
     intro a hA
     refine seq_skip hA rfl rfl rfl ?_
     intro a hA
     refine seq_skip hA rfl rfl rfl ?_
     intro a hA
     refine seq_skip hA rfl rfl rfl ?_
     intro a hA
     refine seq_do (v := .bool true) hA rfl rfl rfl (does_pick rfl rfl rfl rfl) ?_
     intro a hA
     refine seq_end ?_
     refine hK7 _ _ ?_
     refine wp_cond_true (hA.ev rfl) ?_
     refine wp_seq_k (fun K11 hK11 => ?_)
     refine wp_region_lit ?_
     refine seq_do hA rfl rfl rfl (does_assign rfl) ?_
     intro a hA
     refine seq_end ?_
     refine hK11 _ _ ?_
     refine wp_ret ?_
     refine hret _ _ ?_
     refine ends (v := .bool false) hA rfl (.cons (res_tmp rfl) .nil) rfl ?_
     exact ⟨by rw [same_no (.inr (.inl hb10'))], hM.bel⟩
   · have hb10' := bne_eq_false_iff_eq.1 hb10
     refine seq_do (v := .bool false) hA rfl rfl rfl (does_bin rfl rfl (fun w => (bin_neq w).trans (by rw [hb10]))) ?_
     intro a hA
     refine seq_do (v := .bool false) hA rfl rfl rfl (does_pick rfl rfl rfl rfl) ?_
     intro a hA
     refine seq_do hA rfl rfl rfl (does_move rfl) ?_
     intro a hA
     refine seq_do (v := .pointer (some ⟨g2, 8, none⟩)) hA rfl rfl rfl (does_field LiS_fld_30_3 rfl rfl) ?_
     intro a hA
     refine seq_do hA rfl rfl rfl (m_load1 hM LiS_is1_9 rfl 1 rfl rfl) ?_
     intro a hA
     refine seq_do (v := .pointer (some ⟨g4, 8, none⟩)) hA rfl rfl rfl (does_field LiS_fld_30_3 rfl rfl) ?_
     intro a hA
     refine seq_do hA rfl rfl rfl (m_load1 hM LiS_is1_9 rfl 0 rfl rfl) ?_
     intro a hA
     rcases Bool.eq_false_or_eq_true (decide (t.d.s = u.d.s)) with hb12 | hb12
     · have hb12' := of_decide_eq_true hb12
       refine seq_do (v := .bool false) hA rfl rfl rfl (does_bin rfl rfl (fun w => (bin_neqS Tryz.underlying9 w).trans (by rw [hb12] <;> rfl))) ?_
       intro a hA
       refine seq_do (v := .bool false) hA rfl rfl rfl (does_pick rfl rfl rfl rfl) ?_
       intro a hA
       refine seq_do hA rfl rfl rfl (does_move rfl) ?_
       intro a hA
       refine seq_do (v := .pointer (some ⟨g2, 9, none⟩)) hA rfl rfl rfl (does_field LiS_fld_30_4 rfl rfl) ?_
       intro a hA
       refine seq_do hA rfl rfl rfl (m_load1 hM LiS_is1_28 rfl 1 rfl rfl) ?_
       intro a hA
       refine seq_do (v := .int .i64 (((t.d.rl.length : Nat) : Int))) hA rfl rfl rfl (does_len Tryz.underlying28 rfl) ?_
       intro a hA
       refine seq_do (v := .pointer (some ⟨g4, 9, none⟩)) hA rfl rfl rfl (does_field LiS_fld_30_4 rfl rfl) ?_
       intro a hA
       refine seq_do hA rfl rfl rfl (m_load1 hM LiS_is1_28 rfl 0 rfl rfl) ?_
       intro a hA
       refine seq_do (v := .int .i64 (((u.d.rl.length : Nat) : Int))) hA rfl rfl rfl (does_len Tryz.underlying28 rfl) ?_
       intro a hA
       rcases Bool.eq_false_or_eq_true ((((t.d.rl.length : Nat) : Int) != ((u.d.rl.length : Nat) : Int))) with hb13 | hb13
       · have hb13' := bne_iff_ne.1 hb13
         refine seq_do (v := .bool true) hA rfl rfl rfl (does_bin rfl rfl (fun w => (bin_neq w).trans (by rw [hb13]))) ?_
         intro a hA
         refine seq_do (v := .bool true) hA rfl rfl rfl (does_pick rfl rfl rfl rfl) ?_
         intro a hA
         refine seq_do hA rfl rfl rfl (does_move rfl) ?_
         intro a hA
         refine seq_skip hA rfl rfl rfl ?_
         intro a hA
         refine seq_skip hA rfl rfl rfl ?_
         intro a hA
         refine seq_skip hA rfl rfl rfl ?_
         intro a hA
         refine seq_skip hA rfl rfl rfl ?_
         intro a hA
         refine seq_skip hA rfl rfl rfl ?_
         intro a hA
         refine seq_skip hA rfl rfl rfl ?_
         intro a hA
         refine seq_skip hA rfl rfl rfl ?_
         intro a hA
         refine seq_do (v := .bool true) hA rfl rfl rfl (does_pick rfl rfl rfl rfl) ?_
         intro a hA
         refine seq_do hA rfl rfl rfl (does_move rfl) ?_
         intro a hA
         refine seq_skip hA rfl rfl rfl ?_
         intro a hA
         refine seq_skip hA rfl rfl rfl ?_
         intro a hA
         refine seq_skip hA rfl rfl rfl ?_
         intro a hA
         refine seq_skip hA rfl rfl rfl ?_
         intro a hA
         refine seq_skip hA rfl rfl rfl ?_
         intro a hA
         refine seq_skip hA rfl rfl rfl ?_
         intro a hA
         refine seq_do (v := .bool true) hA rfl rfl rfl (does_pick rfl rfl rfl rfl) ?_
         intro a hA
         refine seq_end ?_
         refine hK7 _ _ ?_
         refine wp_cond_true (hA.ev rfl) ?_
         refine wp_seq_k (fun K14 hK14 => ?_)
         refine wp_region_lit ?_
         refine seq_do hA rfl rfl rfl (does_assign rfl) ?_
         intro a hA
         refine seq_end ?_
         refine hK14 _ _ ?_
         refine wp_ret ?_
         refine hret _ _ ?_
         refine ends (v := .bool false) hA rfl (.cons (res_tmp rfl) .nil) rfl ?_
         exact ⟨by rw [same_no (.inr (.inr (.inr (.inl (fun e => hb13' (by rw [e]))))))], hM.bel⟩
       · have hb13' := bne_eq_false_iff_eq.1 hb13
         refine seq_do (v := .bool false) hA rfl rfl rfl (does_bin rfl rfl (fun w => (bin_neq w).trans (by rw [hb13]))) ?_
         intro a hA
         refine seq_do (v := .bool false) hA rfl rfl rfl (does_pick rfl rfl rfl rfl) ?_
         intro a hA
         refine seq_do hA rfl rfl rfl (does_move rfl) ?_
         intro a hA
         refine seq_do (v := .pointer (some ⟨g2, 10, none⟩)) hA rfl rfl rfl (does_field LiS_fld_30_5 rfl rfl) ?_
         intro a hA
         refine seq_do hA rfl rfl rfl (m_load1 hM LiS_is1_22 rfl 1 rfl rfl) ?_
         intro a hA
         refine seq_do (v := .int .i64 (((t.ts.length : Nat) : Int))) hA rfl rfl rfl (does_len Tryz.underlying22 rfl) ?_
         intro a hA
         refine seq_do (v := .pointer (some ⟨g4, 10, none⟩)) hA rfl rfl rfl (does_field LiS_fld_30_5 rfl rfl) ?_
         intro a hA
         refine seq_do hA rfl rfl rfl (m_load1 hM LiS_is1_22 rfl 0 rfl rfl) ?_
         intro a hA
         refine seq_do (v := .int .i64 (((u.ts.length : Nat) : Int))) hA rfl rfl rfl (does_len Tryz.underlying22 rfl) ?_
         intro a hA
         rcases Bool.eq_false_or_eq_true ((((t.ts.length : Nat) : Int) != ((u.ts.length : Nat) : Int))) with hb15 | hb15
         · have hb15' := bne_iff_ne.1 hb15
           refine seq_do (v := .bool true) hA rfl rfl rfl (does_bin rfl rfl (fun w => (bin_neq w).trans (by rw [hb15]))) ?_
           intro a hA
           refine seq_do (v := .bool true) hA rfl rfl rfl (does_pick rfl rfl rfl rfl) ?_
           intro a hA
           refine seq_do hA rfl rfl rfl (does_move rfl) ?_
           intro a hA
           refine seq_skip hA rfl rfl rfl ?_
           intro a hA
           refine seq_skip hA rfl rfl rfl ?_
           intro a hA
           refine seq_skip hA rfl rfl rfl ?_
           intro a hA
           refine seq_skip hA rfl rfl rfl ?_
           intro a hA
           refine seq_skip hA rfl rfl rfl ?_
           intro a hA
           refine seq_skip hA rfl rfl rfl ?_
           intro a hA
           refine seq_do (v := .bool true) hA rfl rfl rfl (does_pick rfl rfl rfl rfl) ?_
           intro a hA
           refine seq_end ?_
           refine hK7 _ _ ?_
           refine wp_cond_true (hA.ev rfl) ?_
           refine wp_seq_k (fun K16 hK16 => ?_)
           refine wp_region_lit ?_
           refine seq_do hA rfl rfl rfl (does_assign rfl) ?_
           intro a hA
           refine seq_end ?_
           refine hK16 _ _ ?_
           refine wp_ret ?_
           refine hret _ _ ?_
           refine ends (v := .bool false) hA rfl (.cons (res_tmp rfl) .nil) rfl ?_
           exact ⟨by rw [same_no (.inr (.inr (.inr (.inr (.inl (fun e => hb15' (by rw [e])))))))], hM.bel⟩
         · have hb15' := bne_eq_false_iff_eq.1 hb15
           refine seq_do (v := .bool false) hA rfl rfl rfl (does_bin rfl rfl (fun w => (bin_neq w).trans (by rw [hb15]))) ?_
           intro a hA
           refine seq_do (v := .bool false) hA rfl rfl rfl (does_pick rfl rfl rfl rfl) ?_
           intro a hA
           refine seq_do hA rfl rfl rfl (does_move rfl) ?_
           intro a hA
           refine seq_do (v := .pointer (some ⟨g2, 2, none⟩)) hA rfl rfl rfl (does_field LiS_fld_30_2 rfl rfl) ?_
           intro a hA
           refine seq_do hA rfl rfl rfl (m_loadS hM LiS_isS_27 rfl 1 rfl (cs := [.bool t.d.y.q.b1, .slice t.d.y.o1 t.d.y.q.t1.length t.d.y.c1, .slice t.d.y.o2 t.d.y.q.q1.length t.d.y.c2, .bool t.d.y.q.b2, .slice t.d.y.o3 t.d.y.q.t2.length t.d.y.c3, .slice t.d.y.o4 t.d.y.q.q2.length t.d.y.c4]) rfl rfl) ?_
           intro a hA
           refine seq_do (v := .pointer (some ⟨g4, 2, none⟩)) hA rfl rfl rfl (does_field LiS_fld_30_2 rfl rfl) ?_
           intro a hA
           refine seq_do hA rfl rfl rfl (m_loadS hM LiS_isS_27 rfl 0 rfl (cs := [.bool u.d.y.q.b1, .slice u.d.y.o1 u.d.y.q.t1.length u.d.y.c1, .slice u.d.y.o2 u.d.y.q.q1.length u.d.y.c2, .bool u.d.y.q.b2, .slice u.d.y.o3 u.d.y.q.t2.length u.d.y.c3, .slice u.d.y.o4 u.d.y.q.q2.length u.d.y.c4]) rfl rfl) ?_
           intro a hA
           rcases Bool.eq_false_or_eq_true (SQ2 t u) with hb17 | hb17
           · refine seq_call hA rfl rfl rfl (enters_func rfl rfl (fun w => by kernel_rfl)) (alikeD_any (Dt.keep hM.bel _ ht) (Dt.keep hM.bel _ hu) hb17) ?_
             rintro _ w19 ⟨rfl, hb18⟩
             replace hM := hM.call hb18
             refine ⟨_, rfl, ?_⟩
             intro a hA
             refine seq_do (v := .bool false) hA rfl rfl rfl (does_un rfl un_not) ?_
             intro a hA
             refine seq_do (v := .bool false) hA rfl rfl rfl (does_pick rfl rfl rfl rfl) ?_
             intro a hA
             refine seq_end ?_
             refine hK7 _ _ ?_
             refine wp_cond_false (hA.ev rfl) ?_
             refine wp_skip ?_
             refine hK6 _ _ ?_
             refine wp_seq_k (fun K20 hK20 => ?_)
             refine wp_seq_k (fun K21 hK21 => ?_)
             refine wp_region_lit ?_
             refine seq_do hA rfl rfl rfl (does_assign rfl) ?_
             intro a hA
             refine seq_end ?_
             refine hK21 _ _ ?_
             refine wp_block ?_
             refine wp_loop_n (fun m_ a w1 => ∃ (i : Nat), m_ = 1 + (t.d.rl.length - i) ∧ (i ≤ t.d.rl.length ∧ ∀ j, j < i → t.d.rl.getD j 0 = u.d.rl.getD j 0) ∧ Sl a 89 [(0, .agg (t.d.cells t.ts.length).toArray), (1, .agg (u.d.cells u.ts.length).toArray), (2, .pointer (some ⟨g2, 0, none⟩)), (3, .pointer (some ⟨g4, 0, none⟩)), (5, .int .i64 (((i : Nat) : Int))), (7, .pointer (some ⟨g2, 0, none⟩)), (8, .int .i64 t.d.k), (9, .pointer (some ⟨g4, 0, none⟩)), (10, .int .i64 u.d.k), (11, .bool false), (12, .bool false), (13, .pointer (some ⟨g2, 1, none⟩)), (14, .int .i64 t.d.n), (15, .pointer (some ⟨g4, 1, none⟩)), (16, .int .i64 u.d.n), (17, .bool false), (18, .bool false), (19, .bool false), (20, .pointer (some ⟨g2, 8, none⟩)), (21, .string t.d.s), (22, .pointer (some ⟨g4, 8, none⟩)), (23, .string u.d.s), (24, .bool false), (25, .bool false), (26, .bool false), (27, .pointer (some ⟨g2, 9, none⟩)), (28, .slice t.d.ro t.d.rl.length t.d.rc), (29, .int .i64 (((t.d.rl.length : Nat) : Int))), (30, .pointer (some ⟨g4, 9, none⟩)), (31, .slice u.d.ro u.d.rl.length u.d.rc), (32, .int .i64 (((u.d.rl.length : Nat) : Int))), (33, .bool false), (34, .bool false), (35, .bool false), (36, .pointer (some ⟨g2, 10, none⟩)), (37, .slice t.d.lo t.ts.length t.d.lc), (38, .int .i64 (((t.ts.length : Nat) : Int))), (39, .pointer (some ⟨g4, 10, none⟩)), (40, .slice u.d.lo u.ts.length u.d.lc), (41, .int .i64 (((u.ts.length : Nat) : Int))), (42, .bool false), (43, .bool false), (44, .bool false), (45, .pointer (some ⟨g2, 2, none⟩)), (46, .agg #[.bool t.d.y.q.b1, .slice t.d.y.o1 t.d.y.q.t1.length t.d.y.c1, .slice t.d.y.o2 t.d.y.q.q1.length t.d.y.c2, .bool t.d.y.q.b2, .slice t.d.y.o3 t.d.y.q.t2.length t.d.y.c3, .slice t.d.y.o4 t.d.y.q.q2.length t.d.y.c4]), (47, .pointer (some ⟨g4, 2, none⟩)), (48, .agg #[.bool u.d.y.q.b1, .slice u.d.y.o1 u.d.y.q.t1.length u.d.y.c1, .slice u.d.y.o2 u.d.y.q.q1.length u.d.y.c2, .bool u.d.y.q.b2, .slice u.d.y.o3 u.d.y.q.t2.length u.d.y.c3, .slice u.d.y.o4 u.d.y.q.q2.length u.d.y.c4]), (49, .bool true), (50, .bool false), (51, .bool false)] ∧ Mg w w1 (.obj g4 (.cells (u.d.cells u.ts.length).toArray 30) :: .obj g2 (.cells (t.d.cells t.ts.length).toArray 30) :: [])) _ ⟨0, rfl, ⟨Nat.zero_le _, fun j hj => absurd hj (Nat.not_lt_zero _)⟩, hA.keep _ ⟨rfl, rfl, rfl, rfl, rfl, rfl, rfl, rfl, rfl, rfl, rfl, rfl, rfl, rfl, rfl, rfl, rfl, rfl, rfl, rfl, rfl, rfl, rfl, rfl, rfl, rfl, rfl, rfl, rfl, rfl, rfl, rfl, rfl, rfl, rfl, rfl, rfl, rfl, rfl, rfl, rfl, rfl, rfl, rfl, rfl, rfl, rfl, rfl, rfl, rfl, trivial⟩, hM⟩ ?_
             clear hM hA
             rintro m_ a w22 ⟨i, rfl, hinv24, hA, hM⟩ K23 hK23
             obtain ⟨hi0, hin8⟩ := hinv24
             refine wp_seq_k (fun K25 hK25 => ?_)
             refine wp_seq_k (fun K26 hK26 => ?_)
             refine wp_region_lit ?_
             refine seq_do hA rfl rfl rfl (does_move rfl) ?_
             intro a hA
             refine seq_do (v := .pointer (some ⟨g2, 9, none⟩)) hA rfl rfl rfl (does_field LiS_fld_30_4 rfl rfl) ?_
             intro a hA
             refine seq_do hA rfl rfl rfl (m_load1 hM LiS_is1_28 rfl 1 rfl rfl) ?_
             intro a hA
             refine seq_do (v := .int .i64 (((t.d.rl.length : Nat) : Int))) hA rfl rfl rfl (does_len Tryz.underlying28 rfl) ?_
             intro a hA
             rcases Bool.eq_false_or_eq_true (decide (((i : Nat) : Int) < ((t.d.rl.length : Nat) : Int))) with hb27 | hb27
             · have hb27' := of_decide_eq_true hb27
               refine seq_do (v := .bool true) hA rfl rfl rfl (does_bin rfl rfl (fun w => (bin_lss w).trans (by rw [hb27]))) ?_
               intro a hA
               refine seq_end ?_
               refine hK26 _ _ ?_
               refine wp_cond_true (hA.ev rfl) ?_
               refine wp_skip ?_
               refine hK25 _ _ ?_
               refine wp_seq_k (fun K28 hK28 => ?_)
               refine wp_block ?_
               refine wp_seq_k (fun K29 hK29 => ?_)
               refine wp_draw (S := fun w1 => Mg w w1 (.obj g4 (.cells (u.d.cells u.ts.length).toArray 30) :: .obj g2 (.cells (t.d.cells t.ts.length).toArray 30) :: [])) (by kernel_rfl) ?_
               replace hM := hM.drew
               refine any_tk (v := .pointer (some ⟨g2, 9, none⟩)) hA 0 rfl rfl rfl rfl hP (hM.sub (.cons_cons _ (.cons_cons _ (List.nil_sublist _)))) (fun w1 hM => does_field LiS_fld_30_4 rfl rfl) ?_
               intro a hA
               refine any_tk hA 1 rfl rfl rfl rfl hP (hM.sub (.cons_cons _ (.cons_cons _ (List.nil_sublist _)))) (fun w1 hM => m_load1 hM LiS_is1_28 rfl 1 rfl rfl) ?_
               intro a hA
               refine any_tk hA 2 rfl rfl rfl rfl hP (hM.sub (.cons_cons _ (.cons_cons _ (List.nil_sublist _)))) (fun w1 hM => does_move rfl) ?_
               intro a hA
               obtain ⟨bt, ot, ht1, ht2, ht3⟩ := rb_open (i := i) (Dt.okT ht).1.raw (by omega)
               refine any_tk (v := .pointer (some ⟨bt, ot + i, none⟩)) hA 3 rfl rfl rfl rfl hP (hM.sub (.cons_cons _ (.cons_cons _ (List.nil_sublist _)))) (fun w1 hM => does_indexRow (k := i) Tryz.underlying28 (by kernel_rfl) rfl rfl rfl ht1 (by omega)) ?_
               intro a hA
               refine any_tk hA 4 rfl rfl rfl rfl hP (hM.sub (.cons_cons _ (.cons_cons _ (List.nil_sublist _)))) (fun w1 hM => m_loadR hM ht2 (ht3 i (by omega)) LiS_is1_5 rfl) ?_
               intro a hA
               refine any_tk (v := .pointer (some ⟨g4, 9, none⟩)) hA 5 rfl rfl rfl rfl hP (hM.sub (.cons_cons _ (.cons_cons _ (List.nil_sublist _)))) (fun w1 hM => does_field LiS_fld_30_4 rfl rfl) ?_
               intro a hA
               refine any_tk hA 6 rfl rfl rfl rfl hP (hM.sub (.cons_cons _ (.cons_cons _ (List.nil_sublist _)))) (fun w1 hM => m_load1 hM LiS_is1_28 rfl 0 rfl rfl) ?_
               intro a hA
               refine any_tk hA 7 rfl rfl rfl rfl hP (hM.sub (.cons_cons _ (.cons_cons _ (List.nil_sublist _)))) (fun w1 hM => does_move rfl) ?_
               intro a hA
               obtain ⟨bu, ou, hu1, hu2, hu3⟩ := rb_open (i := i) (Dt.okT hu).1.raw (by omega)
               refine any_tk (v := .pointer (some ⟨bu, ou + i, none⟩)) hA 8 rfl rfl rfl rfl hP (hM.sub (.cons_cons _ (.cons_cons _ (List.nil_sublist _)))) (fun w1 hM => does_indexRow (k := i) Tryz.underlying28 (by kernel_rfl) rfl rfl rfl hu1 (by omega)) ?_
               intro a hA
               refine any_tk hA 9 rfl rfl rfl rfl hP (hM.sub (.cons_cons _ (.cons_cons _ (List.nil_sublist _)))) (fun w1 hM => m_loadR hM hu2 (hu3 i (by omega)) LiS_is1_5 rfl) ?_
               intro a hA
               rcases Bool.eq_false_or_eq_true (((((t.d.rl.getD i 0).toNat : Nat) : Int) != (((u.d.rl.getD i 0).toNat : Nat) : Int))) with hb30 | hb30
               · have hb30' := bne_iff_ne.1 hb30
                 refine any_tk (v := .bool true) hA 10 rfl rfl rfl rfl hP (hM.sub (.cons_cons _ (.cons_cons _ (List.nil_sublist _)))) (fun w1 hM => does_bin rfl rfl (fun w => (bin_neq w).trans (by rw [hb30]))) ?_
                 intro a hA
                 refine any_end (by kernel_rfl) ?_
                 refine hK29 _ _ ?_
                 refine wp_cond_true (hA.ev rfl) ?_
                 refine wp_seq_k (fun K31 hK31 => ?_)
                 refine wp_region_lit ?_
                 refine seq_do hA rfl rfl rfl (does_assign rfl) ?_
                 intro a hA
                 refine seq_end ?_
                 refine hK31 _ _ ?_
                 refine wp_ret ?_
                 refine hret _ _ ?_
                 refine ends (v := .bool false) hA rfl (.cons (res_tmp rfl) .nil) rfl ?_
                 exact ⟨by rw [same_no (.inr (.inr (.inr (.inl (ne_at hb30')))))], hM.bel⟩
               · have hb30' := bne_eq_false_iff_eq.1 hb30
                 refine any_tk (v := .bool false) hA 10 rfl rfl rfl rfl hP (hM.sub (.cons_cons _ (.cons_cons _ (List.nil_sublist _)))) (fun w1 hM => does_bin rfl rfl (fun w => (bin_neq w).trans (by rw [hb30]))) ?_
                 intro a hA
                 refine any_end (by kernel_rfl) ?_
                 refine hK29 _ _ ?_
                 refine wp_cond_false (hA.ev rfl) ?_
                 refine wp_skip ?_
                 refine hK28 _ _ ?_
                 refine wp_region_lit ?_
                 refine seq_do hA rfl rfl rfl (does_move rfl) ?_
                 intro a hA
                 refine seq_do (v := .int .i64 (((i + 1 : Nat) : Int))) hA rfl rfl rfl (does_bin rfl rfl (fun w => (bin_add (i64In (by omega) (by omega)) w).trans (by rw [show (((i : Nat) : Int) + 1 : Int) = ((i + 1 : Nat) : Int) from by omega]))) ?_
                 intro a hA
                 refine seq_do hA rfl rfl rfl (does_assign rfl) ?_
                 intro a hA
                 refine seq_end ?_
                 refine hK23 _ _ _ (by omega) ⟨i + 1, rfl, ⟨by omega, fun j hj => if h9 : j < i then hin8 j h9 else by have h8 : j = i := (by omega); subst h8; exact eq_at hb30'⟩, hA.keep _ ⟨rfl, rfl, rfl, rfl, rfl, rfl, rfl, rfl, rfl, rfl, rfl, rfl, rfl, rfl, rfl, rfl, rfl, rfl, rfl, rfl, rfl, rfl, rfl, rfl, rfl, rfl, rfl, rfl, rfl, rfl, rfl, rfl, rfl, rfl, rfl, rfl, rfl, rfl, rfl, rfl, rfl, rfl, rfl, rfl, rfl, rfl, rfl, rfl, rfl, rfl, trivial⟩, hM⟩
             · have hb27' := of_decide_eq_false hb27
               refine seq_do (v := .bool false) hA rfl rfl rfl (does_bin rfl rfl (fun w => (bin_lss w).trans (by rw [hb27]))) ?_
               intro a hA
               refine seq_end ?_
               refine hK26 _ _ ?_
               refine wp_cond_false (hA.ev rfl) ?_
               refine wp_exit ?_
               refine hK20 _ _ ?_
               refine wp_seq_k (fun K32 hK32 => ?_)
               refine wp_seq_k (fun K33 hK33 => ?_)
               refine wp_region_lit ?_
               refine seq_do hA rfl rfl rfl (does_assign rfl) ?_
               intro a hA
               refine seq_end ?_
               refine hK33 _ _ ?_
               refine wp_block ?_
               have hrl : t.d.rl = u.d.rl := bytes_ext (by omega) (fun j hj => hin8 j (by omega))
               have hsy := same_yes hb8' hb10' hb12' hrl (by omega) hb17
               refine wp_loop_n (fun m_ a w1 => ∃ (j : Nat), m_ = 1 + (t.ts.length - j) ∧ (j ≤ t.ts.length ∧ sameL (t.ts.map Dt.tr) (u.ts.map Dt.tr) = sameL ((t.ts.map Dt.tr).drop j) ((u.ts.map Dt.tr).drop j)) ∧ Sl a 89 [(0, .agg (t.d.cells t.ts.length).toArray), (1, .agg (u.d.cells u.ts.length).toArray), (2, .pointer (some ⟨g2, 0, none⟩)), (3, .pointer (some ⟨g4, 0, none⟩)), (5, .int .i64 (((i : Nat) : Int))), (6, .int .i64 (((j : Nat) : Int))), (7, .pointer (some ⟨g2, 0, none⟩)), (8, .int .i64 t.d.k), (9, .pointer (some ⟨g4, 0, none⟩)), (10, .int .i64 u.d.k), (11, .bool false), (12, .bool false), (13, .pointer (some ⟨g2, 1, none⟩)), (14, .int .i64 t.d.n), (15, .pointer (some ⟨g4, 1, none⟩)), (16, .int .i64 u.d.n), (17, .bool false), (18, .bool false), (19, .bool false), (20, .pointer (some ⟨g2, 8, none⟩)), (21, .string t.d.s), (22, .pointer (some ⟨g4, 8, none⟩)), (23, .string u.d.s), (24, .bool false), (25, .bool false), (26, .bool false), (27, .pointer (some ⟨g2, 9, none⟩)), (28, .slice t.d.ro t.d.rl.length t.d.rc), (29, .int .i64 (((t.d.rl.length : Nat) : Int))), (30, .pointer (some ⟨g4, 9, none⟩)), (31, .slice u.d.ro u.d.rl.length u.d.rc), (32, .int .i64 (((u.d.rl.length : Nat) : Int))), (33, .bool false), (34, .bool false), (35, .bool false), (36, .pointer (some ⟨g2, 10, none⟩)), (37, .slice t.d.lo t.ts.length t.d.lc), (38, .int .i64 (((t.ts.length : Nat) : Int))), (39, .pointer (some ⟨g4, 10, none⟩)), (40, .slice u.d.lo u.ts.length u.d.lc), (41, .int .i64 (((u.ts.length : Nat) : Int))), (42, .bool false), (43, .bool false), (44, .bool false), (45, .pointer (some ⟨g2, 2, none⟩)), (46, .agg #[.bool t.d.y.q.b1, .slice t.d.y.o1 t.d.y.q.t1.length t.d.y.c1, .slice t.d.y.o2 t.d.y.q.q1.length t.d.y.c2, .bool t.d.y.q.b2, .slice t.d.y.o3 t.d.y.q.t2.length t.d.y.c3, .slice t.d.y.o4 t.d.y.q.q2.length t.d.y.c4]), (47, .pointer (some ⟨g4, 2, none⟩)), (48, .agg #[.bool u.d.y.q.b1, .slice u.d.y.o1 u.d.y.q.t1.length u.d.y.c1, .slice u.d.y.o2 u.d.y.q.q1.length u.d.y.c2, .bool u.d.y.q.b2, .slice u.d.y.o3 u.d.y.q.t2.length u.d.y.c3, .slice u.d.y.o4 u.d.y.q.q2.length u.d.y.c4]), (49, .bool true), (50, .bool false), (51, .bool false), (52, .int .i64 (((i : Nat) : Int))), (53, .pointer (some ⟨g2, 9, none⟩)), (54, .slice t.d.ro t.d.rl.length t.d.rc), (55, .int .i64 (((t.d.rl.length : Nat) : Int))), (56, .bool false)] ∧ Mg w w1 (.obj g4 (.cells (u.d.cells u.ts.length).toArray 30) :: .obj g2 (.cells (t.d.cells t.ts.length).toArray 30) :: [])) _ ⟨0, rfl, ⟨Nat.zero_le _, rfl⟩, hA.keep _ ⟨rfl, rfl, rfl, rfl, rfl, rfl, rfl, rfl, rfl, rfl, rfl, rfl, rfl, rfl, rfl, rfl, rfl, rfl, rfl, rfl, rfl, rfl, rfl, rfl, rfl, rfl, rfl, rfl, rfl, rfl, rfl, rfl, rfl, rfl, rfl, rfl, rfl, rfl, rfl, rfl, rfl, rfl, rfl, rfl, rfl, rfl, rfl, rfl, rfl, rfl, rfl, rfl, rfl, rfl, rfl, rfl, trivial⟩, hM⟩ ?_
               clear hM hA
               rintro m_ a w34 ⟨j, rfl, hinv36, hA, hM⟩ K35 hK35
               obtain ⟨hi1, hin9⟩ := hinv36
               refine wp_seq_k (fun K37 hK37 => ?_)
               refine wp_seq_k (fun K38 hK38 => ?_)
               refine wp_region_lit ?_
               refine seq_do hA rfl rfl rfl (does_move rfl) ?_
               intro a hA
               refine seq_do (v := .pointer (some ⟨g2, 10, none⟩)) hA rfl rfl rfl (does_field LiS_fld_30_5 rfl rfl) ?_
               intro a hA
               refine seq_do hA rfl rfl rfl (m_load1 hM LiS_is1_22 rfl 1 rfl rfl) ?_
               intro a hA
               refine seq_do (v := .int .i64 (((t.ts.length : Nat) : Int))) hA rfl rfl rfl (does_len Tryz.underlying22 rfl) ?_
               intro a hA
               rcases Bool.eq_false_or_eq_true (decide (((j : Nat) : Int) < ((t.ts.length : Nat) : Int))) with hb39 | hb39
               · have hb39' := of_decide_eq_true hb39
                 refine seq_do (v := .bool true) hA rfl rfl rfl (does_bin rfl rfl (fun w => (bin_lss w).trans (by rw [hb39]))) ?_
                 intro a hA
                 refine seq_end ?_
                 refine hK38 _ _ ?_
                 refine wp_cond_true (hA.ev rfl) ?_
                 refine wp_skip ?_
                 refine hK37 _ _ ?_
                 refine wp_seq_k (fun K40 hK40 => ?_)
                 refine wp_block ?_
                 refine wp_seq_k (fun K41 hK41 => ?_)
                 obtain ⟨t1, bt1, ot1, it1, mt1, rt1_, lt1, Ht1⟩ := kidT ht (i := j) (by omega)
                 obtain ⟨u1, bu1, ou1, iu1, mu1, ru1_, lu1, Hu1⟩ := kidT hu (i := j) (by omega)
                 refine wp_draw (S := fun w1 => Mg w w1 (.obj g4 (.cells (u.d.cells u.ts.length).toArray 30) :: .obj g2 (.cells (t.d.cells t.ts.length).toArray 30) :: [])) (by kernel_rfl) ?_
                 replace hM := hM.drew
                 refine any_tk (v := .pointer (some ⟨g2, 10, none⟩)) hA 0 rfl rfl rfl rfl hP (hM.sub (.cons_cons _ (.cons_cons _ (List.nil_sublist _)))) (fun w1 hM => does_field LiS_fld_30_5 rfl rfl) ?_
                 intro a hA
                 refine any_tk hA 1 rfl rfl rfl rfl hP (hM.sub (.cons_cons _ (.cons_cons _ (List.nil_sublist _)))) (fun w1 hM => m_load1 hM LiS_is1_22 rfl 1 rfl rfl) ?_
                 intro a hA
                 refine any_tk hA 2 rfl rfl rfl rfl hP (hM.sub (.cons_cons _ (.cons_cons _ (List.nil_sublist _)))) (fun w1 hM => does_move rfl) ?_
                 intro a hA
                 refine any_tk (v := .pointer (some ⟨bt1, ot1 + j * 11, none⟩)) hA 3 rfl rfl rfl rfl hP (hM.sub (.cons_cons _ (.cons_cons _ (List.nil_sublist _)))) (fun w1 hM => does_indexD (k := j) Tryz.underlying22 (by kernel_rfl) rfl rfl rfl lt1 (by omega)) ?_
                 intro a hA
                 refine any_tk hA 4 rfl rfl rfl rfl hP (hM.sub (.cons_cons _ (.cons_cons _ (List.nil_sublist _)))) (fun w1 hM => m_loadHS hM Ht1 LiS_isS_30 rfl rfl) ?_
                 intro a hA
                 refine any_tk (v := .pointer (some ⟨g4, 10, none⟩)) hA 5 rfl rfl rfl rfl hP (hM.sub (.cons_cons _ (.cons_cons _ (List.nil_sublist _)))) (fun w1 hM => does_field LiS_fld_30_5 rfl rfl) ?_
                 intro a hA
                 refine any_tk hA 6 rfl rfl rfl rfl hP (hM.sub (.cons_cons _ (.cons_cons _ (List.nil_sublist _)))) (fun w1 hM => m_load1 hM LiS_is1_22 rfl 0 rfl rfl) ?_
                 intro a hA
                 refine any_tk hA 7 rfl rfl rfl rfl hP (hM.sub (.cons_cons _ (.cons_cons _ (List.nil_sublist _)))) (fun w1 hM => does_move rfl) ?_
                 intro a hA
                 refine any_tk (v := .pointer (some ⟨bu1, ou1 + j * 11, none⟩)) hA 8 rfl rfl rfl rfl hP (hM.sub (.cons_cons _ (.cons_cons _ (List.nil_sublist _)))) (fun w1 hM => does_indexD (k := j) Tryz.underlying22 (by kernel_rfl) rfl rfl rfl lu1 (by omega)) ?_
                 intro a hA
                 refine any_tk hA 9 rfl rfl rfl rfl hP (hM.sub (.cons_cons _ (.cons_cons _ (List.nil_sublist _)))) (fun w1 hM => m_loadHS hM Hu1 LiS_isS_30 rfl rfl) ?_
                 intro a hA
                 rcases Bool.eq_false_or_eq_true (sameT t1.tr u1.tr) with hb42 | hb42
                 · refine any_one (by kernel_rfl) (op_call hA 10 rfl rfl rfl rfl (enters_func rfl rfl (fun w => by kernel_rfl)) ((hb42 ▸ ih (by have := bulkT mt1; omega) (Dt.keep hM.bel _ rt1_) (Dt.keep hM.bel _ ru1_))) ?_)
                   rintro _ w44 ⟨rfl, hb43⟩
                   replace hM := hM.call hb43
                   refine ⟨_, rfl, (hM.sub (.cons_cons _ (.cons_cons _ (List.nil_sublist _)))), ?_⟩
                   intro a hA
                   refine any_tk (v := .bool false) hA 11 rfl rfl rfl rfl hP (hM.sub (.cons_cons _ (.cons_cons _ (List.nil_sublist _)))) (fun w1 hM => does_un rfl un_not) ?_
                   intro a hA
                   refine any_end (by kernel_rfl) ?_
                   refine hK41 _ _ ?_
                   refine wp_cond_false (hA.ev rfl) ?_
                   refine wp_skip ?_
                   refine hK40 _ _ ?_
                   refine wp_region_lit ?_
                   refine seq_do hA rfl rfl rfl (does_move rfl) ?_
                   intro a hA
                   refine seq_do (v := .int .i64 (((j + 1 : Nat) : Int))) hA rfl rfl rfl (does_bin rfl rfl (fun w => (bin_add (i64In (by omega) (by omega)) w).trans (by rw [show (((j : Nat) : Int) + 1 : Int) = ((j + 1 : Nat) : Int) from by omega]))) ?_
                   intro a hA
                   refine seq_do hA rfl rfl rfl (does_assign rfl) ?_
                   intro a hA
                   refine seq_end ?_
                   refine hK35 _ _ _ (by omega) ⟨j + 1, rfl, ⟨by omega, by rw [hin9, sameL_go it1 iu1, hb42, Bool.true_and]⟩, hA.keep _ ⟨rfl, rfl, rfl, rfl, rfl, rfl, rfl, rfl, rfl, rfl, rfl, rfl, rfl, rfl, rfl, rfl, rfl, rfl, rfl, rfl, rfl, rfl, rfl, rfl, rfl, rfl, rfl, rfl, rfl, rfl, rfl, rfl, rfl, rfl, rfl, rfl, rfl, rfl, rfl, rfl, rfl, rfl, rfl, rfl, rfl, rfl, rfl, rfl, rfl, rfl, rfl, rfl, rfl, rfl, rfl, rfl, trivial⟩, hM⟩
                 · refine any_one (by kernel_rfl) (op_call hA 10 rfl rfl rfl rfl (enters_func rfl rfl (fun w => by kernel_rfl)) ((hb42 ▸ ih (by have := bulkT mt1; omega) (Dt.keep hM.bel _ rt1_) (Dt.keep hM.bel _ ru1_))) ?_)
                   rintro _ w46 ⟨rfl, hb45⟩
                   replace hM := hM.call hb45
                   refine ⟨_, rfl, (hM.sub (.cons_cons _ (.cons_cons _ (List.nil_sublist _)))), ?_⟩
                   intro a hA
                   refine any_tk (v := .bool true) hA 11 rfl rfl rfl rfl hP (hM.sub (.cons_cons _ (.cons_cons _ (List.nil_sublist _)))) (fun w1 hM => does_un rfl un_not) ?_
                   intro a hA
                   refine any_end (by kernel_rfl) ?_
                   refine hK41 _ _ ?_
                   refine wp_cond_true (hA.ev rfl) ?_
                   refine wp_seq_k (fun K47 hK47 => ?_)
                   refine wp_region_lit ?_
                   refine seq_do hA rfl rfl rfl (does_assign rfl) ?_
                   intro a hA
                   refine seq_end ?_
                   refine hK47 _ _ ?_
                   refine wp_ret ?_
                   refine hret _ _ ?_
                   refine ends (v := .bool false) hA rfl (.cons (res_tmp rfl) .nil) rfl ?_
                   exact ⟨by rw [hsy, hin9, sameL_go it1 iu1, hb42]; rfl, hM.bel⟩
               · have hb39' := of_decide_eq_false hb39
                 refine seq_do (v := .bool false) hA rfl rfl rfl (does_bin rfl rfl (fun w => (bin_lss w).trans (by rw [hb39]))) ?_
                 intro a hA
                 refine seq_end ?_
                 refine hK38 _ _ ?_
                 refine wp_cond_false (hA.ev rfl) ?_
                 refine wp_exit ?_
                 refine hK32 _ _ ?_
                 refine wp_seq_k (fun K48 hK48 => ?_)
                 refine wp_region_lit ?_
                 refine seq_do hA rfl rfl rfl (does_assign rfl) ?_
                 intro a hA
                 refine seq_end ?_
                 refine hK48 _ _ ?_
                 refine wp_ret ?_
                 refine hret _ _ ?_
                 refine ends (v := .bool true) hA rfl (.cons (res_tmp rfl) .nil) rfl ?_
                 exact ⟨by rw [hsy, hin9, sameL_end (by omega)], hM.bel⟩
           · refine seq_call hA rfl rfl rfl (enters_func rfl rfl (fun w => by kernel_rfl)) (alikeD_any (Dt.keep hM.bel _ ht) (Dt.keep hM.bel _ hu) hb17) ?_
             rintro _ w50 ⟨rfl, hb49⟩
             replace hM := hM.call hb49
             refine ⟨_, rfl, ?_⟩
             intro a hA
             refine seq_do (v := .bool true) hA rfl rfl rfl (does_un rfl un_not) ?_
             intro a hA
             refine seq_do (v := .bool true) hA rfl rfl rfl (does_pick rfl rfl rfl rfl) ?_
             intro a hA
             refine seq_end ?_
             refine hK7 _ _ ?_
             refine wp_cond_true (hA.ev rfl) ?_
             refine wp_seq_k (fun K51 hK51 => ?_)
             refine wp_region_lit ?_
             refine seq_do hA rfl rfl rfl (does_assign rfl) ?_
             intro a hA
             refine seq_end ?_
             refine hK51 _ _ ?_
             refine wp_ret ?_
             refine hret _ _ ?_
             refine ends (v := .bool false) hA rfl (.cons (res_tmp rfl) .nil) rfl ?_
             exact ⟨by rw [same_no (.inr (.inr (.inr (.inr (.inr hb17)))))], hM.bel⟩
     · have hb12' := of_decide_eq_false hb12
       refine seq_do (v := .bool true) hA rfl rfl rfl (does_bin rfl rfl (fun w => (bin_neqS Tryz.underlying9 w).trans (by rw [hb12] <;> rfl))) ?_
       intro a hA
       refine seq_do (v := .bool true) hA rfl rfl rfl (does_pick rfl rfl rfl rfl) ?_
       intro a hA
       refine seq_do hA rfl rfl rfl (does_move rfl) ?_
       intro a hA
       refine seq_skip hA rfl rfl rfl ?_
       intro a hA
       refine seq_skip hA rfl rfl rfl ?_
       intro a hA
       refine seq_skip hA rfl rfl rfl ?_
       intro a hA
       refine seq_skip hA rfl rfl rfl ?_
       intro a hA
       refine seq_skip hA rfl rfl rfl ?_
       intro a hA
       refine seq_skip hA rfl rfl rfl ?_
       intro a hA
       refine seq_skip hA rfl rfl rfl ?_
       intro a hA
       refine seq_do (v := .bool true) hA rfl rfl rfl (does_pick rfl rfl rfl rfl) ?_
       intro a hA
       refine seq_do hA rfl rfl rfl (does_move rfl) ?_
       intro a hA
       refine seq_skip hA rfl rfl rfl ?_
       intro a hA
       refine seq_skip hA rfl rfl rfl ?_
       intro a hA
       refine seq_skip hA rfl rfl rfl ?_
       intro a hA
       refine seq_skip hA rfl rfl rfl ?_
       intro a hA
       refine seq_skip hA rfl rfl rfl ?_
       intro a hA
       refine seq_skip hA rfl rfl rfl ?_
       intro a hA
       refine seq_skip hA rfl rfl rfl ?_
       intro a hA
       refine seq_do (v := .bool true) hA rfl rfl rfl (does_pick rfl rfl rfl rfl) ?_
       intro a hA
       refine seq_do hA rfl rfl rfl (does_move rfl) ?_
       intro a hA
       refine seq_skip hA rfl rfl rfl ?_
       intro a hA
       refine seq_skip hA rfl rfl rfl ?_
       intro a hA
       refine seq_skip hA rfl rfl rfl ?_
       intro a hA
       refine seq_skip hA rfl rfl rfl ?_
       intro a hA
       refine seq_skip hA rfl rfl rfl ?_
       intro a hA
       refine seq_skip hA rfl rfl rfl ?_
       intro a hA
       refine seq_do (v := .bool true) hA rfl rfl rfl (does_pick rfl rfl rfl rfl) ?_
       intro a hA
       refine seq_end ?_
       refine hK7 _ _ ?_
       refine wp_cond_true (hA.ev rfl) ?_
       refine wp_seq_k (fun K52 hK52 => ?_)
       refine wp_region_lit ?_
       refine seq_do hA rfl rfl rfl (does_assign rfl) ?_
       intro a hA
       refine seq_end ?_
       refine hK52 _ _ ?_
       refine wp_ret ?_
       refine hret _ _ ?_
       refine ends (v := .bool false) hA rfl (.cons (res_tmp rfl) .nil) rfl ?_
       exact ⟨by rw [same_no (.inr (.inr (.inl hb12')))], hM.bel⟩
theorem rsames_all : ∀ n, RSames n
  | 0 => fun h => absurd h (Nat.not_lt_zero _)
  | n + 1 => rsames_step (rsames_all n)
end Go.Proofs.YtbnjomifogjdfaaGreatDoor.G
namespace Go.Proofs.YtbnjomifogjdfaaGreatDoor.G
open Go.RowKit
set_option linter.unusedVariables false
set_option linter.unusedSimpArgs false
/-- A list is sound. -/
def OkL (L : List Tr) : Prop := L.all (deepT 2) = true ∧ nodesL L + L.length + 1 ≤ 20000 ∧ L.all (allT shapeT) = true
theorem okL_iff (L : List Tr) : soundT shapeT (linkT L nilT) = true ↔ OkL L := by
  rw [sound_link]
  have h1 : deepT 1 nilT = true := by rfl
  have h2 : allT shapeT nilT = true := by rfl
  have h3 : nodesT nilT = 1 := by rfl
  rw [h3]
  unfold OkL
  constructor
  · rintro ⟨⟨a, _⟩, b, c, _⟩; exact ⟨a, b, c⟩
  · rintro ⟨a, b, c⟩; exact ⟨⟨a, h1⟩, b, c, h2⟩
theorem OkL.of {L M : List Tr} (h : OkL L) (hm : ∀ x ∈ M, x ∈ L) (hn : nodesL M + M.length ≤ nodesL L + L.length) : OkL M := ⟨List.all_eq_true.2 fun x hx => List.all_eq_true.1 h.1 x (hm x hx), by have := h.2.1; omega, List.all_eq_true.2 fun x hx => List.all_eq_true.1 h.2.2 x (hm x hx)⟩
theorem ofS_yes {A : List Tr} (h : OkL A) : ofS A = linkT A nilT := by unfold ofS; rw [fitS_yes ((okL_iff A).2 h)]
theorem rev_ok {A : List Tr} (h : OkL A) : revS (linkT A nilT) = (linkT A.reverse nilT, 0) := by
  unfold revS
  rw [if_neg (by rw [(okL_iff A).2 h]; decide), asList_link]
/-! ### How much the answers hold -/
theorem fit_bulk (xs : List Tr) (z : Tr) : (fitS xs z).1.bulk ≤ Tr.bulks xs + xs.length + z.bulk + 1 := by
  unfold fitS
  split
  · show (linkT xs z).bulk ≤ _; rw [link_bulk]; omega
  · show zeroT.bulk ≤ _; rw [show zeroT.bulk = 1 from rfl]; omega
theorem blen : ∀ xs : List Tr, xs.length ≤ Tr.bulks xs
  | [] => Nat.le_refl _
  | t :: xs => by
    have := blen xs
    have h2 : 1 ≤ t.bulk := by cases t; rw [trbulk_mk]; omega
    rw [Tr.bulks, List.length_cons]; omega
theorem of_bulk (xs : List Tr) : (ofS xs).bulk ≤ Tr.bulks xs + Tr.bulks xs + 2 := by
  have h1 := fit_bulk xs nilT
  have h2 := blen xs
  rw [show nilT.bulk = 1 from rfl] at h1
  unfold ofS
  omega
theorem join_bulk : ∀ {L xs : List Tr}, joinS L = some xs → Tr.bulks xs + xs.length ≤ Tr.bulks L
  | [], xs, h => by cases h; exact Nat.le_refl _
  | t :: L, xs, h => by
    rw [joinS] at h
    cases h1 : asList t with
    | none => rw [h1] at h; cases h
    | some a =>
      cases h2 : joinS L with
      | none => rw [h1, h2] at h; cases h
      | some b =>
        rw [h1, h2] at h
        cases h
        have h3 := asList_bulk h1
        have h4 := join_bulk h2
        rw [bulks_append, Tr.bulks, List.length_append]
        omega
/-- The items of a datum, and the error. -/
noncomputable def itemS (t : Tr) : List Tr × Int :=
  if soundT shapeT t = false then ([], 2) else match asList t with
    | none => ([], 10)
    | some xs => (xs, 0)
theorem itemS_bad {t : Tr} (h : soundT shapeT t = false) : itemS t = ([], 2) := by unfold itemS; rw [if_pos h]
theorem itemS_none {t : Tr} (h : soundT shapeT t = true) (ha : asList t = none) : itemS t = ([], 10) := by unfold itemS; rw [if_neg (by rw [h]; decide), ha]
theorem itemS_some {t : Tr} {xs : List Tr} (h : soundT shapeT t = true) (ha : asList t = some xs) : itemS t = (xs, 0) := by unfold itemS; rw [if_neg (by rw [h]; decide), ha]
theorem tr_at {us vs : List Dt} (h : us.map Dt.tr = vs.map Dt.tr) {i : Nat} {t u : Dt} (ht : us[i]? = some t) (hu : vs[i]? = some u) : t.tr = u.tr := by
  have := congrArg (fun l => l[i]?) h
  simp only [List.getElem?_map, ht, hu, Option.map_some] at this
  exact Option.some.inj this
/-! ### A fixed fact -/
def bareD (k : Int) : Dt := .mk ⟨k, 0, ⟨Q6.zero, none, 0, none, 0, none, 0, none, 0⟩, ⟨#[]⟩, none, 0, [], none, 0⟩ []
theorem awake_of : revS (ofS [(bareD 2).tr, (bareD 10).tr]) = (linkT [(bareD 10).tr, (bareD 2).tr] nilT, 0) := by
  have h : OkL [(bareD 2).tr, (bareD 10).tr] := by
    unfold bareD
    rw [Dt.tr_mk, Dt.tr_mk]
    exact ⟨by rfl, by decide, by rfl⟩
  rw [ofS_yes h, rev_ok h]
  rfl
theorem two_bare (w : World) : ∀ t ∈ [bareD 2, bareD 10], t.rd w := fun t ht => by
  rcases List.mem_cons.1 ht with h | h
  · rw [h]; exact bare_rd w 2 (by decide) (by decide)
  · rw [List.mem_singleton.1 h]; exact bare_rd w 10 (by decide) (by decide)
theorem pair_form {t : Dt} {a b : Tr} (h : t.tr = .mk 8 0 Q6.zero ⟨#[]⟩ [] [a, b]) : t.d.k = 8 ∧ t.ts.length = 2 ∧ ∀ u, t.ts[0]? = some u → u.tr = a := by
  cases t with
  | mk d ts =>
    rw [Dt.tr_mk] at h
    injection h with h1 _ _ _ _ h2
    refine ⟨h1, ?_, fun u hu => ?_⟩
    · have := congrArg List.length h2; rw [List.length_map] at this; exact this
    · have := congrArg (fun l => l[0]?) h2
      simp only [List.getElem?_map] at this
      simp only [Dt.ts] at hu
      rw [hu] at this
      simpa using this
end Go.Proofs.YtbnjomifogjdfaaGreatDoor.G
namespace Go.Proofs.YtbnjomifogjdfaaGreatDoor.G
open Go.RowKit
set_option linter.unusedVariables false
set_option linter.unusedSimpArgs false
set_option maxRecDepth 100000
theorem LiM_is1_22 : Is1 Tryz.prog 22 := ⟨⟨_, Tryz.underlying22, rfl⟩, by kernel_rfl⟩
theorem LiM_is1_3 : Is1 Tryz.prog 3 := ⟨⟨_, Tryz.underlying3, rfl⟩, by kernel_rfl⟩
theorem LiM_fld_30_0 : FieldAt Tryz.prog 30 0 0 := ⟨_, _, Tryz.underlying30, rfl, rfl, by kernel_rfl⟩
theorem LiM_fld_30_5 : FieldAt Tryz.prog 30 5 10 := ⟨_, _, Tryz.underlying30, rfl, rfl, by kernel_rfl⟩
theorem LiM_isS_30 : IsS Tryz.prog 30 11 := ⟨⟨_, Tryz.underlying30⟩, by kernel_rfl⟩
theorem rnil_any {w : World} : Calls Tryz.prog 41 #[] w fun e w' => e = .returned (.agg (nilD.d.cells nilD.ts.length).toArray) ∧ Below w.heap.size w w' := by
 have hM : Mg w w ([]) := Mg.start w
 refine walk_of (l := []) Tryz.func41 rfl Tryz.ntmps41 rfl rfl ?_
 intro Q hret hnorm hP a hA
 refine wp_seq_k (fun K1 hK1 => ?_)
 refine wp_region_lit ?_
 refine s_new (vs := [.int .i64 0, .int .i64 0, .bool false, .slice none 0 0, .slice none 0 0, .bool false, .slice none 0 0, .slice none 0 0, .string (⟨#[]⟩), .slice none 0 0, .slice none 0 0]) (t := 30) hA hM rfl rfl rfl (fun g => .pointer (some ⟨g, 0, none⟩)) (does_alloc (z := .agg #[.int .i64 0, .int .i64 0, .bool false, .slice none 0 0, .slice none 0 0, .bool false, .slice none 0 0, .slice none 0 0, .string (⟨#[]⟩), .slice none 0 0, .slice none 0 0]) (by kernel_rfl) rfl) (by decide) ?_
 intro g2 w3 hM a hA
 refine seq_end ?_
 refine hK1 _ _ ?_
 refine wp_seq_k (fun K4 hK4 => ?_)
 refine wp_region_lit ?_
 refine seq_do (v := .agg #[.int .i64 1, .int .i64 0, .bool false, .slice none 0 0, .slice none 0 0, .bool false, .slice none 0 0, .slice none 0 0, .string (⟨#[]⟩), .slice none 0 0, .slice none 0 0]) hA rfl rfl rfl (does_build rfl (fun w => by kernel_rfl)) ?_
 intro a hA
 refine s_store (us := [.int .i64 1, .int .i64 0, .bool false, .slice none 0 0, .slice none 0 0, .bool false, .slice none 0 0, .slice none 0 0, .string (⟨#[]⟩), .slice none 0 0, .slice none 0 0]) (L' := (.obj g2 (.cells #[.int .i64 1, .int .i64 0, .bool false, .slice none 0 0, .slice none 0 0, .bool false, .slice none 0 0, .slice none 0 0, .string (⟨#[]⟩), .slice none 0 0, .slice none 0 0] 30) :: [])) hA hM rfl rfl (m_store rfl rfl rfl (by kernel_rfl) hM 0 rfl rfl rfl) 0 rfl rfl rfl ?_
 intro w5 hM
 refine seq_end ?_
 refine hK4 _ _ ?_
 refine wp_ret ?_
 refine hret _ _ ?_
 refine ends (v := .agg #[.int .i64 1, .int .i64 0, .bool false, .slice none 0 0, .slice none 0 0, .bool false, .slice none 0 0, .slice none 0 0, .string (⟨#[]⟩), .slice none 0 0, .slice none 0 0]) hA rfl (.cons (res_cellS hM LiM_isS_30 rfl 0 rfl (cs := [.int .i64 1, .int .i64 0, .bool false, .slice none 0 0, .slice none 0 0, .bool false, .slice none 0 0, .slice none 0 0, .string (⟨#[]⟩), .slice none 0 0, .slice none 0 0]) rfl rfl) .nil) rfl ?_
 exact ⟨rfl, hM.bel⟩
theorem parts_any {w0 w : World} {t : Dt} (h0 : Below w0.heap.size w0 w) (ht : t.rd w0) (hs : allT shapeT t.tr = true) (hb : t.tr.bulk ≤ 1000000000) : Calls Tryz.prog 36 #[.agg (t.d.cells t.ts.length).toArray] w fun e w' => ∃ so' ca' ys, ∃ q : Dt, e = .returned (.tuple #[.slice so' (ys : List Dt).length ca', .agg (q.d.cells q.ts.length).toArray]) ∧ (t.tr = linkT (ys.map Dt.tr) q.tr ∧ q.d.k ≠ 8 ∧ allT shapeT q.tr = true ∧ (∀ x ∈ ys, x.rd w0) ∧ q.rd w0 ∧ ys.length ≤ t.tr.bulk) ∧ Mg w w' [.row 30 11 (.slice so' ys.length ca') ys.length (cellsOf ys)] := by
 have hM : Mg w w ([]) := Mg.start w
 refine walk_of (l := [(0, .agg (t.d.cells t.ts.length).toArray)]) Tryz.func36 rfl Tryz.ntmps36 rfl rfl ?_
 intro Q hret hnorm hP a hA
 refine wp_seq_k (fun K1 hK1 => ?_)
 refine wp_region_lit ?_
 refine s_new (vs := [.int .i64 t.d.k, .int .i64 t.d.n, .bool t.d.y.q.b1, .slice t.d.y.o1 t.d.y.q.t1.length t.d.y.c1, .slice t.d.y.o2 t.d.y.q.q1.length t.d.y.c2, .bool t.d.y.q.b2, .slice t.d.y.o3 t.d.y.q.t2.length t.d.y.c3, .slice t.d.y.o4 t.d.y.q.q2.length t.d.y.c4, .string t.d.s, .slice t.d.ro t.d.rl.length t.d.rc, .slice t.d.lo t.ts.length t.d.lc]) (t := 30) hA hM rfl rfl rfl (fun g => .pointer (some ⟨g, 0, none⟩)) (does_box rfl rfl) (by decide) ?_
 intro g2 w3 hM a hA
 refine seq_do hA rfl rfl rfl (does_assign rfl) ?_
 intro a hA
 refine s_new (vs := [.int .i64 0, .int .i64 0, .bool false, .slice none 0 0, .slice none 0 0, .bool false, .slice none 0 0, .slice none 0 0, .string (⟨#[]⟩), .slice none 0 0, .slice none 0 0]) (t := 30) hA hM rfl rfl rfl (fun g => .pointer (some ⟨g, 0, none⟩)) (does_alloc (z := .agg #[.int .i64 0, .int .i64 0, .bool false, .slice none 0 0, .slice none 0 0, .bool false, .slice none 0 0, .slice none 0 0, .string (⟨#[]⟩), .slice none 0 0, .slice none 0 0]) (by kernel_rfl) rfl) (by decide) ?_
 intro g4 w5 hM a hA
 refine seq_end ?_
 refine hK1 _ _ ?_
 refine wp_seq_k (fun K6 hK6 => ?_)
 refine wp_region_lit ?_
 refine s_litE (e := 30) (sz := 11) (m := 0) (vs := cellsOf []) hA hM rfl rfl rfl (does_buildSlice rfl (by kernel_rfl)) rfl rfl (.inl (by decide)) ?_
 intro g7 w8 hM a hA
 refine seq_do hA rfl rfl rfl (does_assign rfl) ?_
 intro a hA
 refine seq_end ?_
 refine hK6 _ _ ?_
 refine wp_seq_k (fun K9 hK9 => ?_)
 refine wp_block ?_
 refine wp_loop_n (fun m_ a w1 => ∃ (p : Dt) (xs : List Dt) (so_ : Option Addr) (ca_ : Nat), m_ = 1 + p.tr.bulk ∧ (p.rd w0 ∧ allT shapeT p.tr = true ∧ (∀ x ∈ xs, x.rd w0) ∧ t.tr = linkT (xs.map Dt.tr) p.tr ∧ xs.length + p.tr.bulk ≤ t.tr.bulk) ∧ Sl a 22 [(0, .agg (t.d.cells t.ts.length).toArray), (1, .pointer (some ⟨g2, 0, none⟩)), (2, .slice none 0 0), (3, .pointer (some ⟨g4, 0, none⟩)), (4, .slice so_ xs.length ca_), (5, .slice (some ⟨g7, 0, none⟩) 0 0)] ∧ Mg w w1 (.row 30 11 (.slice so_ xs.length ca_) xs.length (cellsOf xs) :: .obj g4 (.cells #[.int .i64 0, .int .i64 0, .bool false, .slice none 0 0, .slice none 0 0, .bool false, .slice none 0 0, .slice none 0 0, .string (⟨#[]⟩), .slice none 0 0, .slice none 0 0] 30) :: .obj g2 (.cells (p.d.cells p.ts.length).toArray 30) :: [])) _ ⟨t, [], some ⟨g7, 0, none⟩, 0, rfl, ⟨ht, hs, (fun x h => by cases h), rfl, (by show 0 + t.tr.bulk ≤ t.tr.bulk; omega)⟩, hA.keep _ ⟨rfl, rfl, rfl, rfl, rfl, rfl, trivial⟩, hM⟩ ?_
 clear hM hA
 rintro m_ a w10 ⟨p, xs, so_, ca_, rfl, hinv12, hA, hM⟩ K11 hK11
 obtain ⟨hp, hps, hxs, htl, hbx⟩ := hinv12
 refine wp_seq_k (fun K13 hK13 => ?_)
 refine wp_seq_k (fun K14 hK14 => ?_)
 refine wp_region_lit ?_
 refine seq_do (v := .pointer (some ⟨g2, 0, none⟩)) hA rfl rfl rfl (does_field LiM_fld_30_0 rfl rfl) ?_
 intro a hA
 refine seq_do hA rfl rfl rfl (m_load1 hM LiM_is1_3 rfl 2 rfl rfl) ?_
 intro a hA
 rcases Bool.eq_false_or_eq_true ((p.d.k == 8)) with hb15 | hb15
 · have hb15' := eq_of_beq hb15
   refine seq_do (v := .bool true) hA rfl rfl rfl (does_bin rfl rfl (fun w => (bin_eql w).trans (by rw [hb15]))) ?_
   intro a hA
   refine seq_end ?_
   refine hK14 _ _ ?_
   refine wp_cond_true (hA.ev rfl) ?_
   refine wp_skip ?_
   refine hK13 _ _ ?_
   refine wp_block ?_
   refine wp_seq_k (fun K16 hK16 => ?_)
   have l2p := (pair_at hps hb15').1
   have hbp := bulk_one p
   obtain ⟨p0, bp0, op0, ip0, mp0, rp0_, lp0, Hp0⟩ := kidT hp (i := 0) (by omega)
   obtain ⟨p1, bp1, op1, ip1, mp1, rp1_, lp1, Hp1⟩ := kidT hp (i := 1) (by omega)
   replace Hp0 := Hp0.below h0
   replace Hp1 := Hp1.below h0
   refine wp_region_lit ?_
   refine seq_do hA rfl rfl rfl (does_move rfl) ?_
   intro a hA
   refine seq_do (v := .pointer (some ⟨g2, 10, none⟩)) hA rfl rfl rfl (does_field LiM_fld_30_5 rfl rfl) ?_
   intro a hA
   refine seq_do hA rfl rfl rfl (m_load1 hM LiM_is1_22 rfl 2 rfl rfl) ?_
   intro a hA
   refine seq_do (v := .pointer (some ⟨bp0, op0 + 0 * 11, none⟩)) hA rfl rfl rfl (does_indexD (k := 0) Tryz.underlying22 (by kernel_rfl) rfl rfl rfl lp0 (by omega)) ?_
   intro a hA
   refine seq_do hA rfl rfl rfl (m_loadHS hM Hp0 LiM_isS_30 rfl rfl) ?_
   intro a hA
   refine s_litE (e := 30) (sz := 11) (m := 1) (vs := cellsOf [p0]) hA hM rfl rfl rfl (does_buildSlice rfl (by kernel_rfl)) rfl rfl (.inl (by decide)) ?_
   intro g17 w18 hM a hA
   refine s_appendE (e := 30) (sz := 11) (k := 1) (q := xs.length) (m := 1) (xs := cellsOf xs) (news := cellsOf [p0]) (L' := fun v19 => (.row 30 11 (.slice (some ⟨g17, 0, none⟩) 1 1) 1 (cellsOf [p0]) :: .row 30 11 (v19) (xs.length + 1) (cellsOf xs ++ cellsOf [p0]) :: .obj g4 (.cells #[.int .i64 0, .int .i64 0, .bool false, .slice none 0 0, .slice none 0 0, .bool false, .slice none 0 0, .slice none 0 0, .string (⟨#[]⟩), .slice none 0 0, .slice none 0 0] 30) :: .obj g2 (.cells (p.d.cells p.ts.length).toArray 30) :: [])) hA rfl rfl rfl (m_appX (z := .agg #[.int .i64 0, .int .i64 0, .bool false, .slice none 0 0, .slice none 0 0, .bool false, .slice none 0 0, .slice none 0 0, .string ⟨#[]⟩, .slice none 0 0, .slice none 0 0]) (sz := 11) (by_ := 192) Tryz.underlying22 (by kernel_rfl) rfl rfl rfl hM 1 rfl rfl rfl rfl (rc_own (hM.has 0 rfl)) (cellsOf_oneC [p0]) (by omega)) (fun _ => rfl) ?_
   intro v19 w20 hM a hA
   replace hM : Mg w w20 (.row 30 11 (.slice (some ⟨g17, 0, none⟩) 1 1) 1 (cellsOf [p0]) :: .row 30 11 (v19) ((xs ++ [p0]).length) (cellsOf (xs ++ [p0])) :: .obj g4 (.cells #[.int .i64 0, .int .i64 0, .bool false, .slice none 0 0, .slice none 0 0, .bool false, .slice none 0 0, .slice none 0 0, .string (⟨#[]⟩), .slice none 0 0, .slice none 0 0] 30) :: .obj g2 (.cells (p.d.cells p.ts.length).toArray 30) :: []) := by
     rw [cellsOf_append, List.length_append]; exact hM
   obtain ⟨so21, ca22, rfl⟩ := owns_any (hM.has 1 rfl)
   refine seq_do hA rfl rfl rfl (does_assign rfl) ?_
   intro a hA
   refine seq_end ?_
   refine hK16 _ _ ?_
   refine wp_region_lit ?_
   refine seq_do (v := .pointer (some ⟨g2, 10, none⟩)) hA rfl rfl rfl (does_field LiM_fld_30_5 rfl rfl) ?_
   intro a hA
   refine seq_do hA rfl rfl rfl (m_load1 hM LiM_is1_22 rfl 3 rfl rfl) ?_
   intro a hA
   refine seq_do (v := .pointer (some ⟨bp1, op1 + 1 * 11, none⟩)) hA rfl rfl rfl (does_indexD (k := 1) Tryz.underlying22 (by kernel_rfl) rfl rfl rfl lp1 (by omega)) ?_
   intro a hA
   refine seq_do hA rfl rfl rfl (m_loadHS hM Hp1 LiM_isS_30 rfl rfl) ?_
   intro a hA
   refine s_store (us := [.int .i64 p1.d.k, .int .i64 p1.d.n, .bool p1.d.y.q.b1, .slice p1.d.y.o1 p1.d.y.q.t1.length p1.d.y.c1, .slice p1.d.y.o2 p1.d.y.q.q1.length p1.d.y.c2, .bool p1.d.y.q.b2, .slice p1.d.y.o3 p1.d.y.q.t2.length p1.d.y.c3, .slice p1.d.y.o4 p1.d.y.q.q2.length p1.d.y.c4, .string p1.d.s, .slice p1.d.ro p1.d.rl.length p1.d.rc, .slice p1.d.lo p1.ts.length p1.d.lc]) (L' := (.row 30 11 (.slice (some ⟨g17, 0, none⟩) 1 1) 1 (cellsOf [p0]) :: .row 30 11 (.slice so21 ((xs ++ [p0]).length) ca22) ((xs ++ [p0]).length) (cellsOf (xs ++ [p0])) :: .obj g4 (.cells #[.int .i64 0, .int .i64 0, .bool false, .slice none 0 0, .slice none 0 0, .bool false, .slice none 0 0, .slice none 0 0, .string (⟨#[]⟩), .slice none 0 0, .slice none 0 0] 30) :: .obj g2 (.cells (p1.d.cells p1.ts.length).toArray 30) :: [])) hA hM rfl rfl (m_store rfl rfl rfl (by kernel_rfl) hM 3 rfl rfl rfl) 3 rfl rfl rfl ?_
   intro w23 hM
   refine seq_end ?_
   replace hM : Mg w w23 (.row 30 11 (.slice so21 ((xs ++ [p0]).length) ca22) ((xs ++ [p0]).length) (cellsOf (xs ++ [p0])) :: .obj g4 (.cells #[.int .i64 0, .int .i64 0, .bool false, .slice none 0 0, .slice none 0 0, .bool false, .slice none 0 0, .slice none 0 0, .string (⟨#[]⟩), .slice none 0 0, .slice none 0 0] 30) :: .obj g2 (.cells (p1.d.cells p1.ts.length).toArray 30) :: []) := by
     have h9 := hM.sub (.cons _ (.cons_cons _ (.cons_cons _ (.cons_cons _ (.refl _)))))
     exact h9
   refine hK11 _ _ _ (by have := bulkT mp1; omega) ⟨p1, xs ++ [p0], so21, ca22, rfl, ⟨rp1_, (all_at hps).2 _ mp1, mem_snoc hxs rp0_, link_step htl hps hb15' ip0 ip1, by have := bulkT mp1; rw [List.length_append]; simp only [List.length_cons, List.length_nil]; omega⟩, hA.keep _ ⟨rfl, rfl, rfl, rfl, rfl, rfl, trivial⟩, hM⟩
 · have hb15' := ne_of_beq_false hb15
   refine seq_do (v := .bool false) hA rfl rfl rfl (does_bin rfl rfl (fun w => (bin_eql w).trans (by rw [hb15]))) ?_
   intro a hA
   refine seq_end ?_
   refine hK14 _ _ ?_
   refine wp_cond_false (hA.ev rfl) ?_
   refine wp_exit ?_
   refine hK9 _ _ ?_
   refine wp_seq_k (fun K24 hK24 => ?_)
   refine wp_draw (S := fun w1 => Mg w w1 (.obj g2 (.cells (p.d.cells p.ts.length).toArray 30) :: [])) (by kernel_rfl) ?_
   replace hM := hM.drew
   refine any_tk hA 0 rfl rfl rfl rfl hP (hM.sub (.cons _ (.cons _ (.cons_cons _ (List.nil_sublist _))))) (fun w1 hM => does_move rfl) ?_
   intro a hA
   refine any_tk hA 1 rfl rfl rfl rfl hP (hM.sub (.cons _ (.cons _ (.cons_cons _ (List.nil_sublist _))))) (fun w1 hM => m_loadS hM LiM_isS_30 rfl 0 rfl (cs := [.int .i64 p.d.k, .int .i64 p.d.n, .bool p.d.y.q.b1, .slice p.d.y.o1 p.d.y.q.t1.length p.d.y.c1, .slice p.d.y.o2 p.d.y.q.q1.length p.d.y.c2, .bool p.d.y.q.b2, .slice p.d.y.o3 p.d.y.q.t2.length p.d.y.c3, .slice p.d.y.o4 p.d.y.q.q2.length p.d.y.c4, .string p.d.s, .slice p.d.ro p.d.rl.length p.d.rc, .slice p.d.lo p.ts.length p.d.lc]) rfl rfl) ?_
   intro a hA
   refine any_tk hA 2 rfl rfl rfl rfl hP (hM.sub (.cons _ (.cons _ (.cons_cons _ (List.nil_sublist _))))) (fun w1 hM => does_assign rfl) ?_
   intro a hA
   refine any_one (by kernel_rfl) (g_store (us := [.int .i64 p.d.k, .int .i64 p.d.n, .bool p.d.y.q.b1, .slice p.d.y.o1 p.d.y.q.t1.length p.d.y.c1, .slice p.d.y.o2 p.d.y.q.q1.length p.d.y.c2, .bool p.d.y.q.b2, .slice p.d.y.o3 p.d.y.q.t2.length p.d.y.c3, .slice p.d.y.o4 p.d.y.q.q2.length p.d.y.c4, .string p.d.s, .slice p.d.ro p.d.rl.length p.d.rc, .slice p.d.lo p.ts.length p.d.lc]) (L' := (.row 30 11 (.slice so_ xs.length ca_) xs.length (cellsOf xs) :: .obj g4 (.cells (p.d.cells p.ts.length).toArray 30) :: .obj g2 (.cells (p.d.cells p.ts.length).toArray 30) :: [])) hA hM 3 rfl rfl rfl (m_store rfl rfl rfl (by kernel_rfl) hM 1 rfl rfl rfl) 1 rfl rfl rfl ?_)
   intro w25 hM
   refine ⟨(hM.sub (.cons _ (.cons _ (.cons_cons _ (List.nil_sublist _))))), ?_⟩
   refine any_end (by kernel_rfl) ?_
   refine hK24 _ _ ?_
   refine wp_ret ?_
   refine hret _ _ ?_
   refine ends (v := .tuple #[.slice so_ xs.length ca_, .agg (p.d.cells p.ts.length).toArray]) hA rfl (.cons (res_tmp rfl) (.cons (res_cellS hM LiM_isS_30 rfl 1 rfl (cs := [.int .i64 p.d.k, .int .i64 p.d.n, .bool p.d.y.q.b1, .slice p.d.y.o1 p.d.y.q.t1.length p.d.y.c1, .slice p.d.y.o2 p.d.y.q.q1.length p.d.y.c2, .bool p.d.y.q.b2, .slice p.d.y.o3 p.d.y.q.t2.length p.d.y.c3, .slice p.d.y.o4 p.d.y.q.q2.length p.d.y.c4, .string p.d.s, .slice p.d.ro p.d.rl.length p.d.rc, .slice p.d.lo p.ts.length p.d.lc]) rfl rfl) .nil)) rfl ?_
   replace hM : Mg w w25 (.row 30 11 (.slice so_ xs.length ca_) xs.length (cellsOf xs) :: []) := by
     have h9 := hM.sub (.cons_cons _ (.cons _ (.cons _ (.refl _))))
     exact h9
   exact ⟨_, _, xs, p, rfl, ⟨htl, hb15', hps, hxs, hp, by omega⟩, hM⟩
theorem ritems_or {w0 w : World} {t : Dt} (h0 : Below w0.heap.size w0 w) (ht : t.rd w0) (hb : t.tr.bulk ≤ 4000000) : Calls Tryz.prog 9 #[.agg (t.d.cells t.ts.length).toArray] w fun e w' => (∃ so' ca' ys, e = .returned (.tuple #[.slice so' (ys : List Dt).length ca', .int .i64 0]) ∧ (soundT shapeT t.tr = true ∧ asList t.tr = some (ys.map Dt.tr) ∧ (∀ x ∈ ys, x.rd w0) ∧ ys.length ≤ t.tr.bulk) ∧ Mg w w' [.row 30 11 (.slice so' ys.length ca') ys.length (cellsOf ys)]) ∨ (e = .returned (.tuple #[.slice none 0 0, .int .i64 10]) ∧ (soundT shapeT t.tr = true ∧ asList t.tr = none) ∧ Below w.heap.size w w') ∨ (e = .returned (.tuple #[.slice none 0 0, .int .i64 2]) ∧ soundT shapeT t.tr = false ∧ Below w.heap.size w w') := by
 have hM : Mg w w ([]) := Mg.start w
 refine walk_of (l := [(0, .agg (t.d.cells t.ts.length).toArray)]) Tryz.func9 rfl Tryz.ntmps9 rfl rfl ?_
 intro Q hret hnorm hP a hA
 refine wp_seq_k (fun K1 hK1 => ?_)
 refine wp_region_lit ?_
 refine s_new (vs := [.int .i64 t.d.k, .int .i64 t.d.n, .bool t.d.y.q.b1, .slice t.d.y.o1 t.d.y.q.t1.length t.d.y.c1, .slice t.d.y.o2 t.d.y.q.q1.length t.d.y.c2, .bool t.d.y.q.b2, .slice t.d.y.o3 t.d.y.q.t2.length t.d.y.c3, .slice t.d.y.o4 t.d.y.q.q2.length t.d.y.c4, .string t.d.s, .slice t.d.ro t.d.rl.length t.d.rc, .slice t.d.lo t.ts.length t.d.lc]) (t := 30) hA hM rfl rfl rfl (fun g => .pointer (some ⟨g, 0, none⟩)) (does_box rfl rfl) (by decide) ?_
 intro g2 w3 hM a hA
 refine seq_do hA rfl rfl rfl (does_assign rfl) ?_
 intro a hA
 refine seq_do hA rfl rfl rfl (does_assign rfl) ?_
 intro a hA
 refine seq_end ?_
 refine hK1 _ _ ?_
 refine wp_seq_k (fun K4 hK4 => ?_)
 refine wp_seq_k (fun K5 hK5 => ?_)
 refine wp_region_lit ?_
 refine seq_do hA rfl rfl rfl (m_loadS hM LiM_isS_30 rfl 0 rfl (cs := [.int .i64 t.d.k, .int .i64 t.d.n, .bool t.d.y.q.b1, .slice t.d.y.o1 t.d.y.q.t1.length t.d.y.c1, .slice t.d.y.o2 t.d.y.q.q1.length t.d.y.c2, .bool t.d.y.q.b2, .slice t.d.y.o3 t.d.y.q.t2.length t.d.y.c3, .slice t.d.y.o4 t.d.y.q.q2.length t.d.y.c4, .string t.d.s, .slice t.d.ro t.d.rl.length t.d.rc, .slice t.d.lo t.ts.length t.d.lc]) rfl rfl) ?_
 intro a hA
 rcases Bool.eq_false_or_eq_true (soundT shapeT t.tr) with hb6 | hb6
 · refine seq_call hA rfl rfl rfl (enters_func rfl rfl (fun w => by kernel_rfl)) ((hb6 ▸ rsound_any (t := t) (Dt.keep hM.bel _ (Dt.keep h0 _ ht)) (by omega))) ?_
   rintro _ w8 ⟨rfl, hb7⟩
   replace hM := hM.call hb7
   refine ⟨_, rfl, ?_⟩
   intro a hA
   refine seq_do (v := .bool false) hA rfl rfl rfl (does_un rfl un_not) ?_
   intro a hA
   refine seq_end ?_
   refine hK5 _ _ ?_
   refine wp_cond_false (hA.ev rfl) ?_
   refine wp_skip ?_
   refine hK4 _ _ ?_
   refine wp_seq_k (fun K9 hK9 => ?_)
   refine wp_region_lit ?_
   refine seq_do hA rfl rfl rfl (m_loadS hM LiM_isS_30 rfl 0 rfl (cs := [.int .i64 t.d.k, .int .i64 t.d.n, .bool t.d.y.q.b1, .slice t.d.y.o1 t.d.y.q.t1.length t.d.y.c1, .slice t.d.y.o2 t.d.y.q.q1.length t.d.y.c2, .bool t.d.y.q.b2, .slice t.d.y.o3 t.d.y.q.t2.length t.d.y.c3, .slice t.d.y.o4 t.d.y.q.q2.length t.d.y.c4, .string t.d.s, .slice t.d.ro t.d.rl.length t.d.rc, .slice t.d.lo t.ts.length t.d.lc]) rfl rfl) ?_
   intro a hA
   refine seq_call hA rfl rfl rfl (enters_func rfl rfl (fun w => by kernel_rfl)) (parts_any (h0.trans (hM.bel.mono h0.size)) ht (sound_all hb6) (by omega)) ?_
   rintro _ w10 ⟨so7, ca7, ys, q, rfl, ⟨hy1, hq8, hqs, hy2, hqr, hy3⟩, hM7⟩
   replace hM : Mg w w10 (.row 30 11 (.slice so7 ys.length ca7) ys.length (cellsOf ys) :: .obj g2 (.cells (t.d.cells t.ts.length).toArray 30) :: []) := (hM.both hM7 (noBld_cons (by simp) (noBld_quiet quietL_nil)) (noBld_cons (by simp) (noBld_quiet quietL_nil)))
   refine ⟨_, rfl, ?_⟩
   intro a hA
   refine seq_do hA rfl rfl rfl (does_move rfl) ?_
   intro a hA
   refine seq_do (v := .slice so7 ys.length ca7) hA rfl rfl rfl (does_extract (vs := [.slice so7 ys.length ca7, .agg (q.d.cells q.ts.length).toArray]) rfl rfl) ?_
   intro a hA
   refine seq_do (v := .agg (q.d.cells q.ts.length).toArray) hA rfl rfl rfl (does_extract (vs := [.slice so7 ys.length ca7, .agg (q.d.cells q.ts.length).toArray]) rfl rfl) ?_
   intro a hA
   refine s_new (vs := [.int .i64 0, .int .i64 0, .bool false, .slice none 0 0, .slice none 0 0, .bool false, .slice none 0 0, .slice none 0 0, .string (⟨#[]⟩), .slice none 0 0, .slice none 0 0]) (t := 30) hA hM rfl rfl rfl (fun g => .pointer (some ⟨g, 0, none⟩)) (does_alloc (z := .agg #[.int .i64 0, .int .i64 0, .bool false, .slice none 0 0, .slice none 0 0, .bool false, .slice none 0 0, .slice none 0 0, .string (⟨#[]⟩), .slice none 0 0, .slice none 0 0]) (by kernel_rfl) rfl) (by decide) ?_
   intro g11 w12 hM a hA
   refine seq_do hA rfl rfl rfl (does_assign rfl) ?_
   intro a hA
   refine s_store (us := [.int .i64 q.d.k, .int .i64 q.d.n, .bool q.d.y.q.b1, .slice q.d.y.o1 q.d.y.q.t1.length q.d.y.c1, .slice q.d.y.o2 q.d.y.q.q1.length q.d.y.c2, .bool q.d.y.q.b2, .slice q.d.y.o3 q.d.y.q.t2.length q.d.y.c3, .slice q.d.y.o4 q.d.y.q.q2.length q.d.y.c4, .string q.d.s, .slice q.d.ro q.d.rl.length q.d.rc, .slice q.d.lo q.ts.length q.d.lc]) (L' := (.obj g11 (.cells (q.d.cells q.ts.length).toArray 30) :: .row 30 11 (.slice so7 ys.length ca7) ys.length (cellsOf ys) :: .obj g2 (.cells (t.d.cells t.ts.length).toArray 30) :: [])) hA hM rfl rfl (m_store rfl rfl rfl (by kernel_rfl) hM 0 rfl rfl rfl) 0 rfl rfl rfl ?_
   intro w13 hM
   refine seq_end ?_
   refine hK9 _ _ ?_
   refine wp_seq_k (fun K14 hK14 => ?_)
   refine wp_seq_k (fun K15 hK15 => ?_)
   refine wp_region_lit ?_
   refine seq_do (v := .pointer (some ⟨g11, 0, none⟩)) hA rfl rfl rfl (does_field LiM_fld_30_0 rfl rfl) ?_
   intro a hA
   refine seq_do hA rfl rfl rfl (m_load1 hM LiM_is1_3 rfl 0 rfl rfl) ?_
   intro a hA
   rcases Bool.eq_false_or_eq_true ((q.d.k != 1)) with hb16 | hb16
   · have hb16' := bne_iff_ne.1 hb16
     refine seq_do (v := .bool true) hA rfl rfl rfl (does_bin rfl rfl (fun w => (bin_neq w).trans (by rw [hb16]))) ?_
     intro a hA
     refine seq_end ?_
     refine hK15 _ _ ?_
     refine wp_cond_true (hA.ev rfl) ?_
     refine wp_seq_k (fun K17 hK17 => ?_)
     refine wp_region_lit ?_
     refine seq_do hA rfl rfl rfl (does_assign rfl) ?_
     intro a hA
     refine seq_do hA rfl rfl rfl (does_assign rfl) ?_
     intro a hA
     refine seq_end ?_
     refine hK17 _ _ ?_
     refine wp_ret ?_
     refine hret _ _ ?_
     refine ends (v := .tuple #[.slice none 0 0, .int .i64 10]) hA rfl (.cons (res_tmp rfl) (.cons (res_tmp rfl) .nil)) rfl ?_
     exact .inr (.inl ⟨rfl, ⟨hb6, asList_not hy1 hq8 hb16'⟩, hM.bel⟩)
   · have hb16' := bne_eq_false_iff_eq.1 hb16
     refine seq_do (v := .bool false) hA rfl rfl rfl (does_bin rfl rfl (fun w => (bin_neq w).trans (by rw [hb16]))) ?_
     intro a hA
     refine seq_end ?_
     refine hK15 _ _ ?_
     refine wp_cond_false (hA.ev rfl) ?_
     refine wp_skip ?_
     refine hK14 _ _ ?_
     refine wp_seq_k (fun K18 hK18 => ?_)
     refine wp_region_lit ?_
     refine seq_do hA rfl rfl rfl (does_move rfl) ?_
     intro a hA
     refine seq_do hA rfl rfl rfl (does_assign rfl) ?_
     intro a hA
     refine seq_do hA rfl rfl rfl (does_assign rfl) ?_
     intro a hA
     refine seq_end ?_
     refine hK18 _ _ ?_
     refine wp_ret ?_
     refine hret _ _ ?_
     refine ends (v := .tuple #[.slice so7 ys.length ca7, .int .i64 0]) hA rfl (.cons (res_tmp rfl) (.cons (res_tmp rfl) .nil)) rfl ?_
     replace hM : Mg w w13 (.row 30 11 (.slice so7 ys.length ca7) ys.length (cellsOf ys) :: []) := by
       have h9 := hM.sub (.cons _ (.cons_cons _ (.cons _ (.refl _))))
       exact h9
     exact .inl ⟨_, _, ys, rfl, ⟨hb6, asList_nil hy1 hqs hb16', hy2, hy3⟩, hM⟩
 · refine seq_call hA rfl rfl rfl (enters_func rfl rfl (fun w => by kernel_rfl)) ((hb6 ▸ rsound_any (t := t) (Dt.keep hM.bel _ (Dt.keep h0 _ ht)) (by omega))) ?_
   rintro _ w20 ⟨rfl, hb19⟩
   replace hM := hM.call hb19
   refine ⟨_, rfl, ?_⟩
   intro a hA
   refine seq_do (v := .bool true) hA rfl rfl rfl (does_un rfl un_not) ?_
   intro a hA
   refine seq_end ?_
   refine hK5 _ _ ?_
   refine wp_cond_true (hA.ev rfl) ?_
   refine wp_seq_k (fun K21 hK21 => ?_)
   refine wp_region_lit ?_
   refine seq_do hA rfl rfl rfl (does_assign rfl) ?_
   intro a hA
   refine seq_do hA rfl rfl rfl (does_assign rfl) ?_
   intro a hA
   refine seq_end ?_
   refine hK21 _ _ ?_
   refine wp_ret ?_
   refine hret _ _ ?_
   refine ends (v := .tuple #[.slice none 0 0, .int .i64 2]) hA rfl (.cons (res_tmp rfl) (.cons (res_tmp rfl) .nil)) rfl ?_
   exact .inr (.inr ⟨rfl, hb6, hM.bel⟩)
theorem ritems_some {w0 w : World} {t : Dt} (h0 : Below w0.heap.size w0 w) (ht : t.rd w0) (hb : t.tr.bulk ≤ 4000000) (hs : soundT shapeT t.tr = true) (h : (asList t.tr).isSome = true) : Calls Tryz.prog 9 #[.agg (t.d.cells t.ts.length).toArray] w fun e w' => ∃ so' ca' ys, e = .returned (.tuple #[.slice so' (ys : List Dt).length ca', .int .i64 0]) ∧ (asList t.tr = some (ys.map Dt.tr) ∧ (∀ x ∈ ys, x.rd w0) ∧ ys.length ≤ t.tr.bulk) ∧ Mg w w' [.row 30 11 (.slice so' ys.length ca') ys.length (cellsOf ys)] := by
  refine (ritems_or h0 ht hb).mono ?_
  rintro e w' (⟨so', ca', ys, h1, h2, h3⟩ | ⟨_, h2, _⟩ | ⟨_, h2, _⟩)
  · exact ⟨so', ca', ys, h1, h2.2, h3⟩
  · rw [h2.2] at h; cases h
  · rw [hs] at h2; cases h2
theorem ritems_none {w0 w : World} {t : Dt} (h0 : Below w0.heap.size w0 w) (ht : t.rd w0) (hb : t.tr.bulk ≤ 4000000) (hs : soundT shapeT t.tr = true) (h : (asList t.tr).isSome = false) : Calls Tryz.prog 9 #[.agg (t.d.cells t.ts.length).toArray] w fun e w' => e = .returned (.tuple #[.slice none 0 0, .int .i64 10]) ∧ Below w.heap.size w w' := by
  refine (ritems_or h0 ht hb).mono ?_
  rintro e w' (⟨so', ca', ys, h1, h2, h3⟩ | ⟨h1, h2, h3⟩ | ⟨_, h2, _⟩)
  · rw [h2.2.1] at h; cases h
  · exact ⟨h1, h3⟩
  · rw [hs] at h2; cases h2
theorem ritems_bad {w0 w : World} {t : Dt} (h0 : Below w0.heap.size w0 w) (ht : t.rd w0) (hb : t.tr.bulk ≤ 4000000) (hs : soundT shapeT t.tr = false) : Calls Tryz.prog 9 #[.agg (t.d.cells t.ts.length).toArray] w fun e w' => e = .returned (.tuple #[.slice none 0 0, .int .i64 2]) ∧ Below w.heap.size w w' := by
  refine (ritems_or h0 ht hb).mono ?_
  rintro e w' (⟨so', ca', ys, h1, h2, h3⟩ | ⟨h1, h2, h3⟩ | ⟨h1, h2, h3⟩)
  · rw [hs] at h2; cases h2.1
  · rw [hs] at h2; cases h2.1
  · exact ⟨h1, h3⟩
theorem drop_tr {ts : List Dt} {k : Nat} {t : Dt} (h : ts[k - 1]? = some t) (hk : 0 < k) : (ts.drop (k - 1)).map Dt.tr = t.tr :: (ts.drop k).map Dt.tr := by
  obtain ⟨hl, rfl⟩ := List.getElem?_eq_some_iff.1 h
  rw [List.drop_eq_getElem_cons hl, show k - 1 + 1 = k by omega, List.map_cons]
theorem rlist_any {w : World} {so : Option Addr} {ca : Nat} {ts : List Dt} (hR : Rt w so ts) (hD : ∀ t ∈ ts, t.rd w) {u : Dt} (hu : u.rd w) (hl : ts.length ≤ 1000000000) (P : Nat → Prop) (hPn : ∀ b, w.heap.size ≤ b → P b) (hPt : ∀ t ∈ ts, t.at_ P) (hPu : u.at_ P) : Calls Tryz.prog 43 #[.slice so ts.length ca, .agg (u.d.cells u.ts.length).toArray] w fun e w' => ∃ t2 : Dt, e = .returned (.agg (t2.d.cells t2.ts.length).toArray) ∧ (t2.rd w' ∧ t2.at_ P ∧ t2.tr = linkT (ts.map Dt.tr) u.tr) ∧ Below w.heap.size w w' := by
 have hM : Mg w w ([]) := Mg.start w
 refine walk_of (l := [(0, .slice so ts.length ca), (1, .agg (u.d.cells u.ts.length).toArray)]) Tryz.func43 rfl Tryz.ntmps43 rfl rfl ?_
 intro Q hret hnorm hP a hA
 refine wp_seq_k (fun K1 hK1 => ?_)
 refine wp_region_lit ?_
 refine s_new (vs := [.int .i64 u.d.k, .int .i64 u.d.n, .bool u.d.y.q.b1, .slice u.d.y.o1 u.d.y.q.t1.length u.d.y.c1, .slice u.d.y.o2 u.d.y.q.q1.length u.d.y.c2, .bool u.d.y.q.b2, .slice u.d.y.o3 u.d.y.q.t2.length u.d.y.c3, .slice u.d.y.o4 u.d.y.q.q2.length u.d.y.c4, .string u.d.s, .slice u.d.ro u.d.rl.length u.d.rc, .slice u.d.lo u.ts.length u.d.lc]) (t := 30) hA hM rfl rfl rfl (fun g => .pointer (some ⟨g, 0, none⟩)) (does_box rfl rfl) (by decide) ?_
 intro g2 w3 hM a hA
 refine s_new (vs := [.int .i64 0, .int .i64 0, .bool false, .slice none 0 0, .slice none 0 0, .bool false, .slice none 0 0, .slice none 0 0, .string (⟨#[]⟩), .slice none 0 0, .slice none 0 0]) (t := 30) hA hM rfl rfl rfl (fun g => .pointer (some ⟨g, 0, none⟩)) (does_alloc (z := .agg #[.int .i64 0, .int .i64 0, .bool false, .slice none 0 0, .slice none 0 0, .bool false, .slice none 0 0, .slice none 0 0, .string (⟨#[]⟩), .slice none 0 0, .slice none 0 0]) (by kernel_rfl) rfl) (by decide) ?_
 intro g4 w5 hM a hA
 refine seq_end ?_
 refine hK1 _ _ ?_
 refine wp_seq_k (fun K6 hK6 => ?_)
 refine wp_seq_k (fun K7 hK7 => ?_)
 refine wp_region_lit ?_
 refine seq_do hA rfl rfl rfl (does_move rfl) ?_
 intro a hA
 refine seq_do (v := .int .i64 (((ts.length : Nat) : Int))) hA rfl rfl rfl (does_len Tryz.underlying22 rfl) ?_
 intro a hA
 refine seq_do (v := .int .i64 (((ts.length : Nat) : Int) - 1)) hA rfl rfl rfl (does_bin rfl rfl (ar_sub (in_i64 (by omega) (by omega)))) ?_
 intro a hA
 refine seq_do hA rfl rfl rfl (does_assign rfl) ?_
 intro a hA
 refine seq_end ?_
 refine hK7 _ _ ?_
 refine wp_block ?_
 have hge3 := (Ck.lt (hM.has 1 rfl) g2 rfl).1
 have hge4 := (Ck.lt (hM.has 0 rfl) g4 rfl).1
 refine wp_loop_n (fun m_ a w1 => ∃ (k : Nat) (z : Dt), m_ = 1 + k ∧ (k ≤ ts.length ∧ z.rd w1 ∧ z.at_ (fun b => b ≠ g2 ∧ b ≠ g4) ∧ z.at_ P ∧ z.tr = linkT ((ts.drop k).map Dt.tr) u.tr) ∧ Sl a 21 [(0, .slice so ts.length ca), (1, .agg (u.d.cells u.ts.length).toArray), (3, .pointer (some ⟨g2, 0, none⟩)), (4, .pointer (some ⟨g4, 0, none⟩)), (5, .int .i64 (((k : Nat) : Int) - 1)), (6, .slice so ts.length ca), (7, .int .i64 (((ts.length : Nat) : Int))), (8, .int .i64 (((ts.length : Nat) : Int) - 1))] ∧ Mg w w1 (.obj g4 (.cells #[.int .i64 0, .int .i64 0, .bool false, .slice none 0 0, .slice none 0 0, .bool false, .slice none 0 0, .slice none 0 0, .string (⟨#[]⟩), .slice none 0 0, .slice none 0 0] 30) :: .obj g2 (.cells (z.d.cells z.ts.length).toArray 30) :: [])) _ ⟨ts.length, u, rfl, ⟨Nat.le_refl _, Dt.keep hM.bel _ hu, Dt.at_mono (fun b hb => by constructor <;> omega) _ (Dt.at_lt _ hu), hPu, by rw [List.drop_length]; rfl⟩, hA.keep _ ⟨rfl, rfl, rfl, rfl, rfl, rfl, rfl, rfl, trivial⟩, hM⟩ ?_
 clear hM hA
 rintro m_ a w8 ⟨k, z, rfl, hinv10, hA, hM⟩ K9 hK9
 obtain ⟨hk0, hzr, hza, hzp, hzt⟩ := hinv10
 refine wp_seq_k (fun K11 hK11 => ?_)
 refine wp_seq_k (fun K12 hK12 => ?_)
 refine wp_region_lit ?_
 refine seq_do hA rfl rfl rfl (does_move rfl) ?_
 intro a hA
 rcases Bool.eq_false_or_eq_true (decide (0 ≤ ((k : Nat) : Int) - 1)) with hb13 | hb13
 · have hb13' := of_decide_eq_true hb13
   refine seq_do (v := .bool true) hA rfl rfl rfl (does_bin rfl rfl (fun w => (bin_geq w).trans (by rw [hb13]))) ?_
   intro a hA
   refine seq_end ?_
   refine hK12 _ _ ?_
   refine wp_cond_true (hA.ev rfl) ?_
   refine wp_skip ?_
   refine hK11 _ _ ?_
   refine wp_seq_k (fun K14 hK14 => ?_)
   refine wp_block ?_
   obtain ⟨t1, bt1, ot1, it1, mt1, rt1_, lt1, Ht1⟩ := kidL hR hD (i := (k - 1)) (by omega)
   have hl3 := (Ck.lt (hM.has 1 rfl) g2 rfl).2
   have hl4 := (Ck.lt (hM.has 0 rfl) g4 rfl).2
   refine wp_draw (S := fun w1 => Mg w w1 ([])) (by kernel_rfl) ?_
   replace hM := hM.drew
   refine any_tk hA 0 rfl rfl rfl rfl hP (hM.sub (.cons _ (.cons _ (List.nil_sublist _)))) (fun w1 hM => does_move rfl) ?_
   intro a hA
   refine any_tk hA 1 rfl rfl rfl rfl hP (hM.sub (.cons _ (.cons _ (List.nil_sublist _)))) (fun w1 hM => does_move rfl) ?_
   intro a hA
   refine any_tk (v := .pointer (some ⟨bt1, ot1 + (k - 1) * 11, none⟩)) hA 2 rfl rfl rfl rfl hP (hM.sub (.cons _ (.cons _ (List.nil_sublist _)))) (fun w1 hM => does_indexD (k := (k - 1)) Tryz.underlying22 (by kernel_rfl) rfl rfl (by omega) lt1 (by omega)) ?_
   intro a hA
   refine any_tk hA 3 rfl rfl rfl rfl hP (hM.sub (.cons _ (.cons _ (List.nil_sublist _)))) (fun w1 hM => m_loadHS hM Ht1 LiM_isS_30 rfl rfl) ?_
   intro a hA
   refine any_one (by kernel_rfl) (op_do hA 4 rfl rfl rfl rfl (m_loadS hM LiM_isS_30 rfl 1 rfl (cs := [.int .i64 z.d.k, .int .i64 z.d.n, .bool z.d.y.q.b1, .slice z.d.y.o1 z.d.y.q.t1.length z.d.y.c1, .slice z.d.y.o2 z.d.y.q.q1.length z.d.y.c2, .bool z.d.y.q.b2, .slice z.d.y.o3 z.d.y.q.t2.length z.d.y.c3, .slice z.d.y.o4 z.d.y.q.q2.length z.d.y.c4, .string z.d.s, .slice z.d.ro z.d.rl.length z.d.rc, .slice z.d.lo z.ts.length z.d.lc]) rfl rfl) (hM.sub (.cons _ (.cons _ (List.nil_sublist _)))) ?_)
   intro a hA
   replace hzr : z.rd w8.drew := Dt.keep (Below.refl _ w8).drew _ hzr
   have hdw : w8.drew.heap.size = w8.heap.size := rfl
   refine any_one (by kernel_rfl) (g_litD (e := 30) (sz := 11) (m := 2) (vs := cellsOf [t1, z]) hA hM 5 rfl rfl rfl rfl (does_buildSlice rfl (by kernel_rfl)) rfl rfl (by decide) ?_)
   intro g5 w15 hM hg5 hb5
   replace hzr := Dt.keep hb5 _ hzr
   refine ⟨(hM.sub (.cons _ (.cons _ (.cons _ (List.nil_sublist _))))), ?_⟩
   intro a hA
   refine any_tk (v := .agg ((pairD g5 t1 z).d.cells (pairD g5 t1 z).ts.length).toArray) hA 6 rfl rfl rfl rfl hP (hM.sub (.cons _ (.cons _ (.cons _ (List.nil_sublist _))))) (fun w1 hM => does_build rfl (fun w => by kernel_rfl)) ?_
   intro a hA
   refine any_one (by kernel_rfl) (g_storeD (us := [.int .i64 ((pairD g5 t1 z).d.k), .int .i64 ((pairD g5 t1 z).d.n), .bool ((pairD g5 t1 z).d.y.q.b1), .slice ((pairD g5 t1 z).d.y.o1) ((pairD g5 t1 z).d.y.q.t1.length) ((pairD g5 t1 z).d.y.c1), .slice ((pairD g5 t1 z).d.y.o2) ((pairD g5 t1 z).d.y.q.q1.length) ((pairD g5 t1 z).d.y.c2), .bool ((pairD g5 t1 z).d.y.q.b2), .slice ((pairD g5 t1 z).d.y.o3) ((pairD g5 t1 z).d.y.q.t2.length) ((pairD g5 t1 z).d.y.c3), .slice ((pairD g5 t1 z).d.y.o4) ((pairD g5 t1 z).d.y.q.q2.length) ((pairD g5 t1 z).d.y.c4), .string ((pairD g5 t1 z).d.s), .slice ((pairD g5 t1 z).d.ro) ((pairD g5 t1 z).d.rl.length) ((pairD g5 t1 z).d.rc), .slice ((pairD g5 t1 z).d.lo) ((pairD g5 t1 z).ts.length) ((pairD g5 t1 z).d.lc)]) (L' := (.row 30 11 (.slice (some ⟨g5, 0, none⟩) 2 2) 2 (cellsOf [t1, z]) :: .obj g4 (.cells #[.int .i64 0, .int .i64 0, .bool false, .slice none 0 0, .slice none 0 0, .bool false, .slice none 0 0, .slice none 0 0, .string (⟨#[]⟩), .slice none 0 0, .slice none 0 0] 30) :: .obj g2 (.cells ((pairD g5 t1 z).d.cells (pairD g5 t1 z).ts.length).toArray 30) :: [])) hA hM 7 rfl rfl rfl (m_store (cs := (pairD g5 t1 z).d.cells (pairD g5 t1 z).ts.length) rfl rfl rfl (by kernel_rfl) hM 2 rfl rfl (cells_all (pairD g5 t1 z))) 2 rfl rfl rfl ?_)
   intro w16 hM hK17
   replace hzr := Dt.kept hK17 _ hzr (Dt.at_mono (fun b hb => hb.1) _ hza)
   have hr9 : (pairD g5 t1 z).rd w16 := pairD_rd (Ck.lt (hM.has 0 rfl) g5 rfl).2 (fun p v hp => by
     obtain ⟨b, o, e, hc⟩ := rc_own (hM.has 0 rfl) (fun e => by cases e)
     cases e
     have := hc p v hp
     rwa [Nat.zero_add] at this) (Dt.keep hM.bel _ rt1_) hzr
   have ha9 : (pairD g5 t1 z).at_ (fun b => b ≠ g2 ∧ b ≠ g4) := pairD_at ⟨by omega, by omega⟩ (Dt.at_mono (fun b hb => by constructor <;> omega) _ (Dt.at_lt _ rt1_)) hza
   have hp9 : (pairD g5 t1 z).at_ P := pairD_at (hPn _ (by omega)) (hPt t1 mt1) hzp
   refine ⟨(hM.sub (.cons _ (.cons _ (.cons _ (List.nil_sublist _))))), ?_⟩
   refine any_end (by kernel_rfl) ?_
   refine hK14 _ _ ?_
   refine wp_region_lit ?_
   refine seq_do hA rfl rfl rfl (does_move rfl) ?_
   intro a hA
   refine seq_do (v := .int .i64 (((k - 1 : Nat) : Int) - 1)) hA rfl rfl rfl (does_bin rfl rfl (ar_sub ((in_i64 (by omega) (by omega)).trans (by omega)))) ?_
   intro a hA
   refine seq_do hA rfl rfl rfl (does_assign rfl) ?_
   intro a hA
   refine seq_end ?_
   replace hM : Mg w w16 (.obj g4 (.cells #[.int .i64 0, .int .i64 0, .bool false, .slice none 0 0, .slice none 0 0, .bool false, .slice none 0 0, .slice none 0 0, .string (⟨#[]⟩), .slice none 0 0, .slice none 0 0] 30) :: .obj g2 (.cells ((pairD g5 t1 z).d.cells (pairD g5 t1 z).ts.length).toArray 30) :: []) := by
     have h9 := hM.sub (.cons _ (.cons_cons _ (.cons_cons _ (.refl _))))
     exact h9
   refine hK9 _ _ _ (by omega) ⟨k - 1, (pairD g5 t1 z), rfl, ⟨by omega, hr9, ha9, hp9, by rw [pairD_tr, hzt, drop_tr it1 (by omega)]; rfl⟩, hA.keep _ ⟨rfl, rfl, rfl, rfl, rfl, rfl, rfl, rfl, trivial⟩, hM⟩
 · have hb13' := of_decide_eq_false hb13
   refine seq_do (v := .bool false) hA rfl rfl rfl (does_bin rfl rfl (fun w => (bin_geq w).trans (by rw [hb13]))) ?_
   intro a hA
   refine seq_end ?_
   refine hK12 _ _ ?_
   refine wp_cond_false (hA.ev rfl) ?_
   refine wp_exit ?_
   refine hK6 _ _ ?_
   refine wp_seq_k (fun K18 hK18 => ?_)
   refine wp_region_lit ?_
   refine seq_do hA rfl rfl rfl (m_loadS hM LiM_isS_30 rfl 1 rfl (cs := [.int .i64 z.d.k, .int .i64 z.d.n, .bool z.d.y.q.b1, .slice z.d.y.o1 z.d.y.q.t1.length z.d.y.c1, .slice z.d.y.o2 z.d.y.q.q1.length z.d.y.c2, .bool z.d.y.q.b2, .slice z.d.y.o3 z.d.y.q.t2.length z.d.y.c3, .slice z.d.y.o4 z.d.y.q.q2.length z.d.y.c4, .string z.d.s, .slice z.d.ro z.d.rl.length z.d.rc, .slice z.d.lo z.ts.length z.d.lc]) rfl rfl) ?_
   intro a hA
   refine s_storeD (us := [.int .i64 z.d.k, .int .i64 z.d.n, .bool z.d.y.q.b1, .slice z.d.y.o1 z.d.y.q.t1.length z.d.y.c1, .slice z.d.y.o2 z.d.y.q.q1.length z.d.y.c2, .bool z.d.y.q.b2, .slice z.d.y.o3 z.d.y.q.t2.length z.d.y.c3, .slice z.d.y.o4 z.d.y.q.q2.length z.d.y.c4, .string z.d.s, .slice z.d.ro z.d.rl.length z.d.rc, .slice z.d.lo z.ts.length z.d.lc]) (L' := (.obj g4 (.cells (z.d.cells z.ts.length).toArray 30) :: .obj g2 (.cells (z.d.cells z.ts.length).toArray 30) :: [])) hA hM rfl rfl (m_store rfl rfl rfl (by kernel_rfl) hM 0 rfl rfl rfl) 0 rfl rfl rfl ?_
   intro w19 hM hK20
   replace hzr := Dt.kept hK20 _ hzr (Dt.at_mono (fun b hb => hb.2) _ hza)
   refine seq_end ?_
   refine hK18 _ _ ?_
   refine wp_ret ?_
   refine hret _ _ ?_
   refine ends (v := .agg (z.d.cells z.ts.length).toArray) hA rfl (.cons (res_cellS hM LiM_isS_30 rfl 0 rfl (cs := [.int .i64 z.d.k, .int .i64 z.d.n, .bool z.d.y.q.b1, .slice z.d.y.o1 z.d.y.q.t1.length z.d.y.c1, .slice z.d.y.o2 z.d.y.q.q1.length z.d.y.c2, .bool z.d.y.q.b2, .slice z.d.y.o3 z.d.y.q.t2.length z.d.y.c3, .slice z.d.y.o4 z.d.y.q.q2.length z.d.y.c4, .string z.d.s, .slice z.d.ro z.d.rl.length z.d.rc, .slice z.d.lo z.ts.length z.d.lc]) rfl rfl) .nil) rfl ?_
   obtain rfl : k = 0 := by omega
   exact ⟨z, rfl, ⟨hzr, hzp, hzt⟩, hM.bel⟩
end Go.Proofs.YtbnjomifogjdfaaGreatDoor.G
namespace Go.Proofs.YtbnjomifogjdfaaGreatDoor.G
open Go.RowKit
set_option linter.unusedVariables false
set_option linter.unusedSimpArgs false
set_option maxRecDepth 100000
theorem LiN_isS_30 : IsS Tryz.prog 30 11 := ⟨⟨_, Tryz.underlying30⟩, by kernel_rfl⟩
theorem rof_any {w : World} {so : Option Addr} {ca : Nat} {ts : List Dt} (hR : Rt w so ts) (hD : ∀ t ∈ ts, t.rd w) (hb : Tr.bulks (ts.map Dt.tr) ≤ 1100000) : Calls Tryz.prog 19 #[.slice so ts.length ca] w fun e w' => ∃ t2 : Dt, e = .returned (.agg (t2.d.cells t2.ts.length).toArray) ∧ (t2.rd w' ∧ t2.tr = ofS (ts.map Dt.tr)) ∧ Below w.heap.size w w' := by
 have hbl := bulks_len ts
 have hnb : nilD.tr.bulk = 1 := by rw [nilD_tr]; rfl
 have hM : Mg w w ([]) := Mg.start w
 refine walk_of (l := [(0, .slice so ts.length ca)]) Tryz.func19 rfl Tryz.ntmps19 rfl rfl ?_
 intro Q hret hnorm hP a hA
 refine wp_seq_k (fun K1 hK1 => ?_)
 refine wp_region_lit ?_
 refine s_new (vs := [.int .i64 0, .int .i64 0, .bool false, .slice none 0 0, .slice none 0 0, .bool false, .slice none 0 0, .slice none 0 0, .string (⟨#[]⟩), .slice none 0 0, .slice none 0 0]) (t := 30) hA hM rfl rfl rfl (fun g => .pointer (some ⟨g, 0, none⟩)) (does_alloc (z := .agg #[.int .i64 0, .int .i64 0, .bool false, .slice none 0 0, .slice none 0 0, .bool false, .slice none 0 0, .slice none 0 0, .string (⟨#[]⟩), .slice none 0 0, .slice none 0 0]) (by kernel_rfl) rfl) (by decide) ?_
 intro g2 w3 hM a hA
 refine seq_end ?_
 refine hK1 _ _ ?_
 refine wp_seq_k (fun K4 hK4 => ?_)
 refine wp_region_lit ?_
 refine seq_do hA rfl rfl rfl (does_move rfl) ?_
 intro a hA
 refine seq_call hA rfl rfl rfl (enters_func rfl rfl (fun w => by kernel_rfl)) (rnil_any) ?_
 rintro _ w6 ⟨rfl, hb5⟩
 replace hM := hM.call hb5
 refine ⟨_, rfl, ?_⟩
 intro a hA
 obtain ⟨hge7, hlt8⟩ := Ck.lt (hM.has 0 rfl) g2 rfl
 refine seq_call hA rfl rfl rfl (enters_func rfl rfl (fun w => by kernel_rfl)) (rlist_any (hR.below hM.bel) (fun t ht => Dt.keep hM.bel _ (hD t ht)) (nilD_rd _) (by omega) (fun b => b < w.heap.size ∨ w6.heap.size ≤ b) (fun b hb => .inr hb) (fun t ht => Dt.at_mono (fun b hb => .inl hb) _ (Dt.at_lt _ (hD t ht))) (nilD_at _)) ?_
 rintro _ w10 ⟨t3, rfl, ⟨hrt3, hat3, htt3⟩, hb9⟩
 replace hM := hM.call hb9
 refine ⟨_, rfl, ?_⟩
 intro a hA
 refine s_newD (vs := [.int .i64 0, .int .i64 0, .bool false, .slice none 0 0, .slice none 0 0, .bool false, .slice none 0 0, .slice none 0 0, .string (⟨#[]⟩), .slice none 0 0, .slice none 0 0]) (t := 30) hA hM rfl rfl rfl (fun g => .pointer (some ⟨g, 0, none⟩)) (does_alloc (z := .agg #[.int .i64 0, .int .i64 0, .bool false, .slice none 0 0, .slice none 0 0, .bool false, .slice none 0 0, .slice none 0 0, .string (⟨#[]⟩), .slice none 0 0, .slice none 0 0]) (by kernel_rfl) rfl) (by decide) ?_
 intro g11 w12 hM hg13 hb14 a hA
 have hnt3g11 := Dt.at_mono (q := (· ≠ g11)) (fun b hb => by intro e; omega) _ (Dt.at_lt _ hrt3)
 replace hrt3 := Dt.keep hb14 _ hrt3
 refine s_storeD (us := [.int .i64 t3.d.k, .int .i64 t3.d.n, .bool t3.d.y.q.b1, .slice t3.d.y.o1 t3.d.y.q.t1.length t3.d.y.c1, .slice t3.d.y.o2 t3.d.y.q.q1.length t3.d.y.c2, .bool t3.d.y.q.b2, .slice t3.d.y.o3 t3.d.y.q.t2.length t3.d.y.c3, .slice t3.d.y.o4 t3.d.y.q.q2.length t3.d.y.c4, .string t3.d.s, .slice t3.d.ro t3.d.rl.length t3.d.rc, .slice t3.d.lo t3.ts.length t3.d.lc]) (L' := (.obj g11 (.cells (t3.d.cells t3.ts.length).toArray 30) :: .obj g2 (.cells #[.int .i64 0, .int .i64 0, .bool false, .slice none 0 0, .slice none 0 0, .bool false, .slice none 0 0, .slice none 0 0, .string (⟨#[]⟩), .slice none 0 0, .slice none 0 0] 30) :: [])) hA hM rfl rfl (m_store rfl rfl rfl (by kernel_rfl) hM 0 rfl rfl rfl) 0 rfl rfl rfl ?_
 intro w15 hM hK16
 replace hrt3 := Dt.kept hK16 _ hrt3 hnt3g11
 refine seq_end ?_
 refine hK4 _ _ ?_
 refine wp_seq_k (fun K17 hK17 => ?_)
 refine wp_seq_k (fun K18 hK18 => ?_)
 refine wp_region_lit ?_
 refine seq_do hA rfl rfl rfl (m_loadS hM LiN_isS_30 rfl 0 rfl (cs := [.int .i64 t3.d.k, .int .i64 t3.d.n, .bool t3.d.y.q.b1, .slice t3.d.y.o1 t3.d.y.q.t1.length t3.d.y.c1, .slice t3.d.y.o2 t3.d.y.q.q1.length t3.d.y.c2, .bool t3.d.y.q.b2, .slice t3.d.y.o3 t3.d.y.q.t2.length t3.d.y.c3, .slice t3.d.y.o4 t3.d.y.q.q2.length t3.d.y.c4, .string t3.d.s, .slice t3.d.ro t3.d.rl.length t3.d.rc, .slice t3.d.lo t3.ts.length t3.d.lc]) rfl rfl) ?_
 intro a hA
 rcases Bool.eq_false_or_eq_true (soundT shapeT t3.tr) with hb19 | hb19
 · refine seq_call hA rfl rfl rfl (enters_func rfl rfl (fun w => by kernel_rfl)) ((hb19 ▸ rsound_any (t := t3) hrt3 (by rw [htt3, link_bulk, List.length_map]; omega))) ?_
   rintro _ w21 ⟨rfl, hb20⟩
   replace hrt3 := Dt.keep hb20 _ hrt3
   replace hM := hM.call hb20
   refine ⟨_, rfl, ?_⟩
   intro a hA
   refine seq_do (v := .bool false) hA rfl rfl rfl (does_un rfl un_not) ?_
   intro a hA
   refine seq_end ?_
   refine hK18 _ _ ?_
   refine wp_cond_false (hA.ev rfl) ?_
   refine wp_skip ?_
   refine hK17 _ _ ?_
   refine wp_seq_k (fun K22 hK22 => ?_)
   refine wp_region_lit ?_
   refine seq_do hA rfl rfl rfl (m_loadS hM LiN_isS_30 rfl 0 rfl (cs := [.int .i64 t3.d.k, .int .i64 t3.d.n, .bool t3.d.y.q.b1, .slice t3.d.y.o1 t3.d.y.q.t1.length t3.d.y.c1, .slice t3.d.y.o2 t3.d.y.q.q1.length t3.d.y.c2, .bool t3.d.y.q.b2, .slice t3.d.y.o3 t3.d.y.q.t2.length t3.d.y.c3, .slice t3.d.y.o4 t3.d.y.q.q2.length t3.d.y.c4, .string t3.d.s, .slice t3.d.ro t3.d.rl.length t3.d.rc, .slice t3.d.lo t3.ts.length t3.d.lc]) rfl rfl) ?_
   intro a hA
   refine s_storeD (us := [.int .i64 t3.d.k, .int .i64 t3.d.n, .bool t3.d.y.q.b1, .slice t3.d.y.o1 t3.d.y.q.t1.length t3.d.y.c1, .slice t3.d.y.o2 t3.d.y.q.q1.length t3.d.y.c2, .bool t3.d.y.q.b2, .slice t3.d.y.o3 t3.d.y.q.t2.length t3.d.y.c3, .slice t3.d.y.o4 t3.d.y.q.q2.length t3.d.y.c4, .string t3.d.s, .slice t3.d.ro t3.d.rl.length t3.d.rc, .slice t3.d.lo t3.ts.length t3.d.lc]) (L' := (.obj g11 (.cells (t3.d.cells t3.ts.length).toArray 30) :: .obj g2 (.cells (t3.d.cells t3.ts.length).toArray 30) :: [])) hA hM rfl rfl (m_store rfl rfl rfl (by kernel_rfl) hM 1 rfl rfl rfl) 1 rfl rfl rfl ?_
   intro w23 hM hK24
   replace hrt3 := Dt.kept hK24 _ hrt3 (Dt.at_mono (fun b hb => by rintro rfl; omega) _ hat3)
   refine seq_end ?_
   refine hK22 _ _ ?_
   refine wp_ret ?_
   refine hret _ _ ?_
   refine ends (v := .agg (t3.d.cells t3.ts.length).toArray) hA rfl (.cons (res_cellS hM LiN_isS_30 rfl 1 rfl (cs := [.int .i64 t3.d.k, .int .i64 t3.d.n, .bool t3.d.y.q.b1, .slice t3.d.y.o1 t3.d.y.q.t1.length t3.d.y.c1, .slice t3.d.y.o2 t3.d.y.q.q1.length t3.d.y.c2, .bool t3.d.y.q.b2, .slice t3.d.y.o3 t3.d.y.q.t2.length t3.d.y.c3, .slice t3.d.y.o4 t3.d.y.q.q2.length t3.d.y.c4, .string t3.d.s, .slice t3.d.ro t3.d.rl.length t3.d.rc, .slice t3.d.lo t3.ts.length t3.d.lc]) rfl rfl) .nil) rfl ?_
   exact ⟨t3, rfl, ⟨hrt3, by unfold ofS; rw [htt3, nilD_tr] at hb19; rw [fitS_yes hb19, htt3, nilD_tr]⟩, hM.bel⟩
 · refine seq_call hA rfl rfl rfl (enters_func rfl rfl (fun w => by kernel_rfl)) ((hb19 ▸ rsound_any (t := t3) hrt3 (by rw [htt3, link_bulk, List.length_map]; omega))) ?_
   rintro _ w26 ⟨rfl, hb25⟩
   replace hrt3 := Dt.keep hb25 _ hrt3
   replace hM := hM.call hb25
   refine ⟨_, rfl, ?_⟩
   intro a hA
   refine seq_do (v := .bool true) hA rfl rfl rfl (does_un rfl un_not) ?_
   intro a hA
   refine seq_end ?_
   refine hK18 _ _ ?_
   refine wp_cond_true (hA.ev rfl) ?_
   refine wp_seq_k (fun K27 hK27 => ?_)
   refine wp_region_lit ?_
   refine seq_do (v := .agg #[.int .i64 0, .int .i64 0, .bool false, .slice none 0 0, .slice none 0 0, .bool false, .slice none 0 0, .slice none 0 0, .string (⟨#[]⟩), .slice none 0 0, .slice none 0 0]) hA rfl rfl rfl (does_build rfl (fun w => by kernel_rfl)) ?_
   intro a hA
   refine s_storeD (us := [.int .i64 0, .int .i64 0, .bool false, .slice none 0 0, .slice none 0 0, .bool false, .slice none 0 0, .slice none 0 0, .string (⟨#[]⟩), .slice none 0 0, .slice none 0 0]) (L' := (.obj g11 (.cells (t3.d.cells t3.ts.length).toArray 30) :: .obj g2 (.cells #[.int .i64 0, .int .i64 0, .bool false, .slice none 0 0, .slice none 0 0, .bool false, .slice none 0 0, .slice none 0 0, .string (⟨#[]⟩), .slice none 0 0, .slice none 0 0] 30) :: [])) hA hM rfl rfl (m_store rfl rfl rfl (by kernel_rfl) hM 1 rfl rfl rfl) 1 rfl rfl rfl ?_
   intro w28 hM hK29
   replace hrt3 := Dt.kept hK29 _ hrt3 (Dt.at_mono (fun b hb => by rintro rfl; omega) _ hat3)
   refine seq_end ?_
   refine hK27 _ _ ?_
   refine wp_ret ?_
   refine hret _ _ ?_
   refine ends (v := .agg #[.int .i64 0, .int .i64 0, .bool false, .slice none 0 0, .slice none 0 0, .bool false, .slice none 0 0, .slice none 0 0, .string (⟨#[]⟩), .slice none 0 0, .slice none 0 0]) hA rfl (.cons (res_cellS hM LiN_isS_30 rfl 1 rfl (cs := [.int .i64 0, .int .i64 0, .bool false, .slice none 0 0, .slice none 0 0, .bool false, .slice none 0 0, .slice none 0 0, .string (⟨#[]⟩), .slice none 0 0, .slice none 0 0]) rfl rfl) .nil) rfl ?_
   exact ⟨zeroD, rfl, ⟨zeroD_rd _, by unfold ofS; rw [htt3, nilD_tr] at hb19; rw [fitS_no hb19, zeroD_tr]⟩, hM.bel⟩
theorem rfit_any {w : World} {t : Dt} (ht : t.rd w) (hb : t.tr.bulk ≤ 4000000) {P : Nat → Prop} (hPt : t.at_ P) : Calls Tryz.prog 42 #[.agg (t.d.cells t.ts.length).toArray] w fun e w' => ∃ (t2 : Dt) (k : Int), e = .returned (.tuple #[.agg (t2.d.cells t2.ts.length).toArray, .int .i64 k]) ∧ (t2.rd w' ∧ t2.at_ P ∧ (t2.tr, k) = if soundT shapeT t.tr = true then (t.tr, 0) else (zeroT, 4)) ∧ Below w.heap.size w w' := by
 have hM : Mg w w ([]) := Mg.start w
 refine walk_of (l := [(0, .agg (t.d.cells t.ts.length).toArray)]) Tryz.func42 rfl Tryz.ntmps42 rfl rfl ?_
 intro Q hret hnorm hP a hA
 refine wp_seq_k (fun K1 hK1 => ?_)
 refine wp_region_lit ?_
 refine s_new (vs := [.int .i64 t.d.k, .int .i64 t.d.n, .bool t.d.y.q.b1, .slice t.d.y.o1 t.d.y.q.t1.length t.d.y.c1, .slice t.d.y.o2 t.d.y.q.q1.length t.d.y.c2, .bool t.d.y.q.b2, .slice t.d.y.o3 t.d.y.q.t2.length t.d.y.c3, .slice t.d.y.o4 t.d.y.q.q2.length t.d.y.c4, .string t.d.s, .slice t.d.ro t.d.rl.length t.d.rc, .slice t.d.lo t.ts.length t.d.lc]) (t := 30) hA hM rfl rfl rfl (fun g => .pointer (some ⟨g, 0, none⟩)) (does_box rfl rfl) (by decide) ?_
 intro g2 w3 hM a hA
 refine s_new (vs := [.int .i64 0, .int .i64 0, .bool false, .slice none 0 0, .slice none 0 0, .bool false, .slice none 0 0, .slice none 0 0, .string (⟨#[]⟩), .slice none 0 0, .slice none 0 0]) (t := 30) hA hM rfl rfl rfl (fun g => .pointer (some ⟨g, 0, none⟩)) (does_alloc (z := .agg #[.int .i64 0, .int .i64 0, .bool false, .slice none 0 0, .slice none 0 0, .bool false, .slice none 0 0, .slice none 0 0, .string (⟨#[]⟩), .slice none 0 0, .slice none 0 0]) (by kernel_rfl) rfl) (by decide) ?_
 intro g4 w5 hM a hA
 refine seq_do hA rfl rfl rfl (does_assign rfl) ?_
 intro a hA
 refine seq_end ?_
 refine hK1 _ _ ?_
 refine wp_seq_k (fun K6 hK6 => ?_)
 refine wp_seq_k (fun K7 hK7 => ?_)
 refine wp_region_lit ?_
 refine seq_do hA rfl rfl rfl (m_loadS hM LiN_isS_30 rfl 1 rfl (cs := [.int .i64 t.d.k, .int .i64 t.d.n, .bool t.d.y.q.b1, .slice t.d.y.o1 t.d.y.q.t1.length t.d.y.c1, .slice t.d.y.o2 t.d.y.q.q1.length t.d.y.c2, .bool t.d.y.q.b2, .slice t.d.y.o3 t.d.y.q.t2.length t.d.y.c3, .slice t.d.y.o4 t.d.y.q.q2.length t.d.y.c4, .string t.d.s, .slice t.d.ro t.d.rl.length t.d.rc, .slice t.d.lo t.ts.length t.d.lc]) rfl rfl) ?_
 intro a hA
 rcases Bool.eq_false_or_eq_true (soundT shapeT t.tr) with hb8 | hb8
 · refine seq_call hA rfl rfl rfl (enters_func rfl rfl (fun w => by kernel_rfl)) ((hb8 ▸ rsound_any (t := t) (Dt.keep hM.bel _ ht) hb)) ?_
   rintro _ w10 ⟨rfl, hb9⟩
   replace hM := hM.call hb9
   refine ⟨_, rfl, ?_⟩
   intro a hA
   refine seq_do (v := .bool false) hA rfl rfl rfl (does_un rfl un_not) ?_
   intro a hA
   refine seq_end ?_
   refine hK7 _ _ ?_
   refine wp_cond_false (hA.ev rfl) ?_
   refine wp_skip ?_
   refine hK6 _ _ ?_
   refine wp_seq_k (fun K11 hK11 => ?_)
   refine wp_region_lit ?_
   refine seq_do hA rfl rfl rfl (m_loadS hM LiN_isS_30 rfl 1 rfl (cs := [.int .i64 t.d.k, .int .i64 t.d.n, .bool t.d.y.q.b1, .slice t.d.y.o1 t.d.y.q.t1.length t.d.y.c1, .slice t.d.y.o2 t.d.y.q.q1.length t.d.y.c2, .bool t.d.y.q.b2, .slice t.d.y.o3 t.d.y.q.t2.length t.d.y.c3, .slice t.d.y.o4 t.d.y.q.q2.length t.d.y.c4, .string t.d.s, .slice t.d.ro t.d.rl.length t.d.rc, .slice t.d.lo t.ts.length t.d.lc]) rfl rfl) ?_
   intro a hA
   refine s_store (us := [.int .i64 t.d.k, .int .i64 t.d.n, .bool t.d.y.q.b1, .slice t.d.y.o1 t.d.y.q.t1.length t.d.y.c1, .slice t.d.y.o2 t.d.y.q.q1.length t.d.y.c2, .bool t.d.y.q.b2, .slice t.d.y.o3 t.d.y.q.t2.length t.d.y.c3, .slice t.d.y.o4 t.d.y.q.q2.length t.d.y.c4, .string t.d.s, .slice t.d.ro t.d.rl.length t.d.rc, .slice t.d.lo t.ts.length t.d.lc]) (L' := (.obj g4 (.cells (t.d.cells t.ts.length).toArray 30) :: .obj g2 (.cells (t.d.cells t.ts.length).toArray 30) :: [])) hA hM rfl rfl (m_store rfl rfl rfl (by kernel_rfl) hM 0 rfl rfl rfl) 0 rfl rfl rfl ?_
   intro w12 hM
   refine seq_do hA rfl rfl rfl (does_assign rfl) ?_
   intro a hA
   refine seq_end ?_
   refine hK11 _ _ ?_
   refine wp_ret ?_
   refine hret _ _ ?_
   refine ends (v := .tuple #[.agg (t.d.cells t.ts.length).toArray, .int .i64 0]) hA rfl (.cons (res_cellS hM LiN_isS_30 rfl 0 rfl (cs := [.int .i64 t.d.k, .int .i64 t.d.n, .bool t.d.y.q.b1, .slice t.d.y.o1 t.d.y.q.t1.length t.d.y.c1, .slice t.d.y.o2 t.d.y.q.q1.length t.d.y.c2, .bool t.d.y.q.b2, .slice t.d.y.o3 t.d.y.q.t2.length t.d.y.c3, .slice t.d.y.o4 t.d.y.q.q2.length t.d.y.c4, .string t.d.s, .slice t.d.ro t.d.rl.length t.d.rc, .slice t.d.lo t.ts.length t.d.lc]) rfl rfl) (.cons (res_tmp rfl) .nil)) rfl ?_
   exact ⟨t, 0, rfl, ⟨Dt.keep hM.bel _ ht, hPt, by rw [if_pos hb8]⟩, hM.bel⟩
 · refine seq_call hA rfl rfl rfl (enters_func rfl rfl (fun w => by kernel_rfl)) ((hb8 ▸ rsound_any (t := t) (Dt.keep hM.bel _ ht) hb)) ?_
   rintro _ w14 ⟨rfl, hb13⟩
   replace hM := hM.call hb13
   refine ⟨_, rfl, ?_⟩
   intro a hA
   refine seq_do (v := .bool true) hA rfl rfl rfl (does_un rfl un_not) ?_
   intro a hA
   refine seq_end ?_
   refine hK7 _ _ ?_
   refine wp_cond_true (hA.ev rfl) ?_
   refine wp_seq_k (fun K15 hK15 => ?_)
   refine wp_region_lit ?_
   refine seq_do (v := .agg #[.int .i64 0, .int .i64 0, .bool false, .slice none 0 0, .slice none 0 0, .bool false, .slice none 0 0, .slice none 0 0, .string (⟨#[]⟩), .slice none 0 0, .slice none 0 0]) hA rfl rfl rfl (does_build rfl (fun w => by kernel_rfl)) ?_
   intro a hA
   refine s_store (us := [.int .i64 0, .int .i64 0, .bool false, .slice none 0 0, .slice none 0 0, .bool false, .slice none 0 0, .slice none 0 0, .string (⟨#[]⟩), .slice none 0 0, .slice none 0 0]) (L' := (.obj g4 (.cells #[.int .i64 0, .int .i64 0, .bool false, .slice none 0 0, .slice none 0 0, .bool false, .slice none 0 0, .slice none 0 0, .string (⟨#[]⟩), .slice none 0 0, .slice none 0 0] 30) :: .obj g2 (.cells (t.d.cells t.ts.length).toArray 30) :: [])) hA hM rfl rfl (m_store rfl rfl rfl (by kernel_rfl) hM 0 rfl rfl rfl) 0 rfl rfl rfl ?_
   intro w16 hM
   refine seq_do hA rfl rfl rfl (does_assign rfl) ?_
   intro a hA
   refine seq_end ?_
   refine hK15 _ _ ?_
   refine wp_ret ?_
   refine hret _ _ ?_
   refine ends (v := .tuple #[.agg #[.int .i64 0, .int .i64 0, .bool false, .slice none 0 0, .slice none 0 0, .bool false, .slice none 0 0, .slice none 0 0, .string (⟨#[]⟩), .slice none 0 0, .slice none 0 0], .int .i64 4]) hA rfl (.cons (res_cellS hM LiN_isS_30 rfl 0 rfl (cs := [.int .i64 0, .int .i64 0, .bool false, .slice none 0 0, .slice none 0 0, .bool false, .slice none 0 0, .slice none 0 0, .string (⟨#[]⟩), .slice none 0 0, .slice none 0 0]) rfl rfl) (.cons (res_tmp rfl) .nil)) rfl ?_
   exact ⟨zeroD, 4, rfl, ⟨zeroD_rd _, zeroD_at _, by rw [if_neg (by rw [hb8]; decide), zeroD_tr]⟩, hM.bel⟩
theorem rtail_any {w : World} {t : Dt} (ht : t.rd w) (hb : t.tr.bulk ≤ 1100000) {n : Int} : Calls Tryz.prog 15 #[.agg (t.d.cells t.ts.length).toArray, .int .i64 n] w fun e w' => ∃ (t2 : Dt) (k : Int), e = .returned (.tuple #[.agg (t2.d.cells t2.ts.length).toArray, .int .i64 k]) ∧ (t2.rd w' ∧ (t2.tr, k) = tailS t.tr n) ∧ Below w.heap.size w w' := by
 have hM : Mg w w ([]) := Mg.start w
 refine walk_of (l := [(0, .agg (t.d.cells t.ts.length).toArray), (1, .int .i64 n)]) Tryz.func15 rfl Tryz.ntmps15 rfl rfl ?_
 intro Q hret hnorm hP a hA
 refine wp_seq_k (fun K1 hK1 => ?_)
 refine wp_region_lit ?_
 refine s_new (vs := [.int .i64 t.d.k, .int .i64 t.d.n, .bool t.d.y.q.b1, .slice t.d.y.o1 t.d.y.q.t1.length t.d.y.c1, .slice t.d.y.o2 t.d.y.q.q1.length t.d.y.c2, .bool t.d.y.q.b2, .slice t.d.y.o3 t.d.y.q.t2.length t.d.y.c3, .slice t.d.y.o4 t.d.y.q.q2.length t.d.y.c4, .string t.d.s, .slice t.d.ro t.d.rl.length t.d.rc, .slice t.d.lo t.ts.length t.d.lc]) (t := 30) hA hM rfl rfl rfl (fun g => .pointer (some ⟨g, 0, none⟩)) (does_box rfl rfl) (by decide) ?_
 intro g2 w3 hM a hA
 refine s_new (vs := [.int .i64 0, .int .i64 0, .bool false, .slice none 0 0, .slice none 0 0, .bool false, .slice none 0 0, .slice none 0 0, .string (⟨#[]⟩), .slice none 0 0, .slice none 0 0]) (t := 30) hA hM rfl rfl rfl (fun g => .pointer (some ⟨g, 0, none⟩)) (does_alloc (z := .agg #[.int .i64 0, .int .i64 0, .bool false, .slice none 0 0, .slice none 0 0, .bool false, .slice none 0 0, .slice none 0 0, .string (⟨#[]⟩), .slice none 0 0, .slice none 0 0]) (by kernel_rfl) rfl) (by decide) ?_
 intro g4 w5 hM a hA
 refine seq_do hA rfl rfl rfl (does_assign rfl) ?_
 intro a hA
 refine seq_end ?_
 refine hK1 _ _ ?_
 refine wp_seq_k (fun K6 hK6 => ?_)
 refine wp_region_lit ?_
 refine seq_do hA rfl rfl rfl (m_loadS hM LiN_isS_30 rfl 1 rfl (cs := [.int .i64 t.d.k, .int .i64 t.d.n, .bool t.d.y.q.b1, .slice t.d.y.o1 t.d.y.q.t1.length t.d.y.c1, .slice t.d.y.o2 t.d.y.q.q1.length t.d.y.c2, .bool t.d.y.q.b2, .slice t.d.y.o3 t.d.y.q.t2.length t.d.y.c3, .slice t.d.y.o4 t.d.y.q.q2.length t.d.y.c4, .string t.d.s, .slice t.d.ro t.d.rl.length t.d.rc, .slice t.d.lo t.ts.length t.d.lc]) rfl rfl) ?_
 intro a hA
 rcases Bool.eq_false_or_eq_true (soundT shapeT t.tr) with hb7 | hb7
 · rcases Bool.eq_false_or_eq_true ((asList t.tr).isSome) with hb9 | hb9
   · refine seq_call hA rfl rfl rfl (enters_func rfl rfl (fun w => by kernel_rfl)) (ritems_some hM.bel ht (by omega) hb7 hb9) ?_
     rintro _ w11 ⟨so7, ca7, ys, rfl, ⟨hy1, hy2, hy3⟩, hM7⟩
     have hyb := asList_bulk hy1
     replace hM : Mg w w11 (.row 30 11 (.slice so7 ys.length ca7) ys.length (cellsOf ys) :: .obj g4 (.cells #[.int .i64 0, .int .i64 0, .bool false, .slice none 0 0, .slice none 0 0, .bool false, .slice none 0 0, .slice none 0 0, .string (⟨#[]⟩), .slice none 0 0, .slice none 0 0] 30) :: .obj g2 (.cells (t.d.cells t.ts.length).toArray 30) :: []) := (hM.both hM7 (noBld_cons (by simp) (noBld_cons (by simp) (noBld_quiet quietL_nil))) (noBld_cons (by simp) (noBld_quiet quietL_nil)))
     refine ⟨_, rfl, ?_⟩
     intro a hA
     refine seq_do hA rfl rfl rfl (does_move rfl) ?_
     intro a hA
     refine seq_do (v := .slice so7 ys.length ca7) hA rfl rfl rfl (does_extract (vs := [.slice so7 ys.length ca7, .int .i64 0]) rfl rfl) ?_
     intro a hA
     refine seq_do (v := .int .i64 0) hA rfl rfl rfl (does_extract (vs := [.slice so7 ys.length ca7, .int .i64 0]) rfl rfl) ?_
     intro a hA
     refine seq_do hA rfl rfl rfl (does_assign rfl) ?_
     intro a hA
     refine seq_do hA rfl rfl rfl (does_assign rfl) ?_
     intro a hA
     refine seq_end ?_
     refine hK6 _ _ ?_
     refine wp_seq_k (fun K12 hK12 => ?_)
     refine wp_seq_k (fun K13 hK13 => ?_)
     refine wp_region_lit ?_
     refine seq_do hA rfl rfl rfl (does_move rfl) ?_
     intro a hA
     refine seq_do (v := .bool false) hA rfl rfl rfl (does_bin rfl rfl (fun w => by kernel_rfl)) ?_
     intro a hA
     refine seq_end ?_
     refine hK13 _ _ ?_
     refine wp_cond_false (hA.ev rfl) ?_
     refine wp_skip ?_
     refine hK12 _ _ ?_
     refine wp_seq_k (fun K14 hK14 => ?_)
     refine wp_seq_k (fun K15 hK15 => ?_)
     refine wp_region_lit ?_
     refine seq_do hA rfl rfl rfl (does_move rfl) ?_
     intro a hA
     rcases Bool.eq_false_or_eq_true (decide (n < 0)) with hb16 | hb16
     · have hb16' := of_decide_eq_true hb16
       refine seq_do (v := .bool true) hA rfl rfl rfl (does_bin rfl rfl (fun w => (bin_lss w).trans (by rw [hb16]))) ?_
       intro a hA
       refine seq_do hA rfl rfl rfl (does_move rfl) ?_
       intro a hA
       refine seq_skip hA rfl rfl rfl ?_
       intro a hA
       refine seq_skip hA rfl rfl rfl ?_
       intro a hA
       refine seq_skip hA rfl rfl rfl ?_
       intro a hA
       refine seq_skip hA rfl rfl rfl ?_
       intro a hA
       refine seq_do (v := .bool true) hA rfl rfl rfl (does_pick rfl rfl rfl rfl) ?_
       intro a hA
       refine seq_end ?_
       refine hK15 _ _ ?_
       refine wp_cond_true (hA.ev rfl) ?_
       refine wp_seq_k (fun K17 hK17 => ?_)
       refine wp_region_lit ?_
       refine seq_do (v := .agg #[.int .i64 0, .int .i64 0, .bool false, .slice none 0 0, .slice none 0 0, .bool false, .slice none 0 0, .slice none 0 0, .string (⟨#[]⟩), .slice none 0 0, .slice none 0 0]) hA rfl rfl rfl (does_build rfl (fun w => by kernel_rfl)) ?_
       intro a hA
       refine s_store (us := [.int .i64 0, .int .i64 0, .bool false, .slice none 0 0, .slice none 0 0, .bool false, .slice none 0 0, .slice none 0 0, .string (⟨#[]⟩), .slice none 0 0, .slice none 0 0]) (L' := (.row 30 11 (.slice so7 ys.length ca7) ys.length (cellsOf ys) :: .obj g4 (.cells #[.int .i64 0, .int .i64 0, .bool false, .slice none 0 0, .slice none 0 0, .bool false, .slice none 0 0, .slice none 0 0, .string (⟨#[]⟩), .slice none 0 0, .slice none 0 0] 30) :: .obj g2 (.cells (t.d.cells t.ts.length).toArray 30) :: [])) hA hM rfl rfl (m_store rfl rfl rfl (by kernel_rfl) hM 1 rfl rfl rfl) 1 rfl rfl rfl ?_
       intro w18 hM
       refine seq_do hA rfl rfl rfl (does_assign rfl) ?_
       intro a hA
       refine seq_end ?_
       refine hK17 _ _ ?_
       refine wp_ret ?_
       refine hret _ _ ?_
       refine ends (v := .tuple #[.agg #[.int .i64 0, .int .i64 0, .bool false, .slice none 0 0, .slice none 0 0, .bool false, .slice none 0 0, .slice none 0 0, .string (⟨#[]⟩), .slice none 0 0, .slice none 0 0], .int .i64 1]) hA rfl (.cons (res_cellS hM LiN_isS_30 rfl 1 rfl (cs := [.int .i64 0, .int .i64 0, .bool false, .slice none 0 0, .slice none 0 0, .bool false, .slice none 0 0, .slice none 0 0, .string (⟨#[]⟩), .slice none 0 0, .slice none 0 0]) rfl rfl) (.cons (res_tmp rfl) .nil)) rfl ?_
       exact ⟨zeroD, 1, rfl, ⟨zeroD_rd _, by unfold tailS; rw [if_neg (by rw [hb7]; decide), hy1]; show _ = if _ then _ else _; rw [List.length_map, if_pos (by omega), zeroD_tr]⟩, hM.bel⟩
     · have hb16' := of_decide_eq_false hb16
       refine seq_do (v := .bool false) hA rfl rfl rfl (does_bin rfl rfl (fun w => (bin_lss w).trans (by rw [hb16]))) ?_
       intro a hA
       refine seq_do hA rfl rfl rfl (does_move rfl) ?_
       intro a hA
       refine seq_do hA rfl rfl rfl (does_move rfl) ?_
       intro a hA
       refine seq_do hA rfl rfl rfl (does_move rfl) ?_
       intro a hA
       refine seq_do (v := .int .i64 (((ys.length : Nat) : Int))) hA rfl rfl rfl (does_len Tryz.underlying22 rfl) ?_
       intro a hA
       rcases Bool.eq_false_or_eq_true (decide (((ys.length : Nat) : Int) < n)) with hb19 | hb19
       · have hb19' := of_decide_eq_true hb19
         refine seq_do (v := .bool true) hA rfl rfl rfl (does_bin rfl rfl (fun w => (bin_gtr w).trans (by rw [hb19]))) ?_
         intro a hA
         refine seq_do (v := .bool true) hA rfl rfl rfl (does_pick rfl rfl rfl rfl) ?_
         intro a hA
         refine seq_end ?_
         refine hK15 _ _ ?_
         refine wp_cond_true (hA.ev rfl) ?_
         refine wp_seq_k (fun K20 hK20 => ?_)
         refine wp_region_lit ?_
         refine seq_do (v := .agg #[.int .i64 0, .int .i64 0, .bool false, .slice none 0 0, .slice none 0 0, .bool false, .slice none 0 0, .slice none 0 0, .string (⟨#[]⟩), .slice none 0 0, .slice none 0 0]) hA rfl rfl rfl (does_build rfl (fun w => by kernel_rfl)) ?_
         intro a hA
         refine s_store (us := [.int .i64 0, .int .i64 0, .bool false, .slice none 0 0, .slice none 0 0, .bool false, .slice none 0 0, .slice none 0 0, .string (⟨#[]⟩), .slice none 0 0, .slice none 0 0]) (L' := (.row 30 11 (.slice so7 ys.length ca7) ys.length (cellsOf ys) :: .obj g4 (.cells #[.int .i64 0, .int .i64 0, .bool false, .slice none 0 0, .slice none 0 0, .bool false, .slice none 0 0, .slice none 0 0, .string (⟨#[]⟩), .slice none 0 0, .slice none 0 0] 30) :: .obj g2 (.cells (t.d.cells t.ts.length).toArray 30) :: [])) hA hM rfl rfl (m_store rfl rfl rfl (by kernel_rfl) hM 1 rfl rfl rfl) 1 rfl rfl rfl ?_
         intro w21 hM
         refine seq_do hA rfl rfl rfl (does_assign rfl) ?_
         intro a hA
         refine seq_end ?_
         refine hK20 _ _ ?_
         refine wp_ret ?_
         refine hret _ _ ?_
         refine ends (v := .tuple #[.agg #[.int .i64 0, .int .i64 0, .bool false, .slice none 0 0, .slice none 0 0, .bool false, .slice none 0 0, .slice none 0 0, .string (⟨#[]⟩), .slice none 0 0, .slice none 0 0], .int .i64 1]) hA rfl (.cons (res_cellS hM LiN_isS_30 rfl 1 rfl (cs := [.int .i64 0, .int .i64 0, .bool false, .slice none 0 0, .slice none 0 0, .bool false, .slice none 0 0, .slice none 0 0, .string (⟨#[]⟩), .slice none 0 0, .slice none 0 0]) rfl rfl) (.cons (res_tmp rfl) .nil)) rfl ?_
         exact ⟨zeroD, 1, rfl, ⟨zeroD_rd _, by unfold tailS; rw [if_neg (by rw [hb7]; decide), hy1]; show _ = if _ then _ else _; rw [List.length_map, if_pos (by omega), zeroD_tr]⟩, hM.bel⟩
       · have hb19' := of_decide_eq_false hb19
         refine seq_do (v := .bool false) hA rfl rfl rfl (does_bin rfl rfl (fun w => (bin_gtr w).trans (by rw [hb19]))) ?_
         intro a hA
         refine seq_do (v := .bool false) hA rfl rfl rfl (does_pick rfl rfl rfl rfl) ?_
         intro a hA
         refine seq_end ?_
         refine hK15 _ _ ?_
         refine wp_cond_false (hA.ev rfl) ?_
         refine wp_skip ?_
         refine hK14 _ _ ?_
         refine wp_seq_k (fun K22 hK22 => ?_)
         refine wp_draw (S := fun w1 => Mg w w1 ([])) (by kernel_rfl) ?_
         replace hM := hM.drew
         refine any_tk hA 0 rfl rfl rfl rfl hP (hM.sub (.cons _ (.cons _ (.cons _ (List.nil_sublist _))))) (fun w1 hM => does_move rfl) ?_
         intro a hA
         refine any_tk hA 1 rfl rfl rfl rfl hP (hM.sub (.cons _ (.cons _ (.cons _ (List.nil_sublist _))))) (fun w1 hM => does_move rfl) ?_
         intro a hA
         have hcp7 := row_cap (hM.has 0 rfl)
         refine any_tk (v := .slice ((if ca7 = n.toNat then so7 else so7.map (·.add (n.toNat * 11)))) ((ys.drop n.toNat).length) ((ca7 - n.toNat))) hA 2 rfl rfl rfl rfl hP (hM.sub (.cons _ (.cons _ (.cons _ (List.nil_sublist _))))) (fun w1 hM => (by rw [List.length_drop]; exact does_anyFrom (sz := 11) (lo := n.toNat) Tryz.underlying22 (by kernel_rfl) rfl rfl (by omega) (by omega))) ?_
         intro a hA
         refine any_one (by kernel_rfl) (op_call hA 3 rfl rfl rfl rfl (enters_func rfl rfl (fun w => by kernel_rfl)) (rnil_any) ?_)
         rintro _ w24 ⟨rfl, hb23⟩
         replace hM := hM.call hb23
         refine ⟨_, rfl, (hM.sub (.cons _ (.cons _ (.cons _ (List.nil_sublist _))))), ?_⟩
         intro a hA
         obtain ⟨hge25, hlt26⟩ := Ck.lt (hM.has 1 rfl) g4 rfl
         obtain ⟨hge27, hlt28⟩ := Ck.lt (hM.has 2 rfl) g2 rfl
         refine any_one (by kernel_rfl) (op_call hA 4 rfl rfl rfl rfl (enters_func rfl rfl (fun w => by kernel_rfl)) (rlist_any ((rt_own (hM.has 0 rfl)).1.drop ca7 n.toNat hcp7) (fun t ht => Dt.keep hM.bel _ (hy2 t (List.mem_of_mem_drop ht))) (nilD_rd _) (by rw [List.length_drop]; omega) (fun b => b < w.heap.size ∨ w24.heap.size ≤ b) (fun b hb => .inr hb) (fun t ht => Dt.at_mono (fun b hb => .inl hb) _ (Dt.at_lt _ (hy2 t (List.mem_of_mem_drop ht)))) (nilD_at _)) ?_)
         rintro _ w30 ⟨t3, rfl, ⟨hrt3, hat3, htt3⟩, hb29⟩
         replace hM := hM.call hb29
         refine ⟨_, rfl, (hM.sub (.cons _ (.cons _ (.cons _ (List.nil_sublist _))))), ?_⟩
         intro a hA
         refine any_one (by kernel_rfl) (g_storeD (us := [.int .i64 t3.d.k, .int .i64 t3.d.n, .bool t3.d.y.q.b1, .slice t3.d.y.o1 t3.d.y.q.t1.length t3.d.y.c1, .slice t3.d.y.o2 t3.d.y.q.q1.length t3.d.y.c2, .bool t3.d.y.q.b2, .slice t3.d.y.o3 t3.d.y.q.t2.length t3.d.y.c3, .slice t3.d.y.o4 t3.d.y.q.q2.length t3.d.y.c4, .string t3.d.s, .slice t3.d.ro t3.d.rl.length t3.d.rc, .slice t3.d.lo t3.ts.length t3.d.lc]) (L' := (.row 30 11 (.slice so7 ys.length ca7) ys.length (cellsOf ys) :: .obj g4 (.cells (t3.d.cells t3.ts.length).toArray 30) :: .obj g2 (.cells (t.d.cells t.ts.length).toArray 30) :: [])) hA hM 5 rfl rfl rfl (m_store rfl rfl rfl (by kernel_rfl) hM 1 rfl rfl rfl) 1 rfl rfl rfl ?_)
         intro w31 hM hK32
         replace hrt3 := Dt.kept hK32 _ hrt3 (Dt.at_mono (fun b hb => by rintro rfl; omega) _ hat3)
         refine ⟨(hM.sub (.cons _ (.cons _ (.cons _ (List.nil_sublist _))))), ?_⟩
         refine any_tk hA 6 rfl rfl rfl rfl hP (hM.sub (.cons _ (.cons _ (.cons _ (List.nil_sublist _))))) (fun w1 hM => does_assign rfl) ?_
         intro a hA
         refine any_end (by kernel_rfl) ?_
         refine hK22 _ _ ?_
         refine wp_ret ?_
         refine hret _ _ ?_
         refine ends (v := .tuple #[.agg (t3.d.cells t3.ts.length).toArray, .int .i64 0]) hA rfl (.cons (res_cellS hM LiN_isS_30 rfl 1 rfl (cs := [.int .i64 t3.d.k, .int .i64 t3.d.n, .bool t3.d.y.q.b1, .slice t3.d.y.o1 t3.d.y.q.t1.length t3.d.y.c1, .slice t3.d.y.o2 t3.d.y.q.q1.length t3.d.y.c2, .bool t3.d.y.q.b2, .slice t3.d.y.o3 t3.d.y.q.t2.length t3.d.y.c3, .slice t3.d.y.o4 t3.d.y.q.q2.length t3.d.y.c4, .string t3.d.s, .slice t3.d.ro t3.d.rl.length t3.d.rc, .slice t3.d.lo t3.ts.length t3.d.lc]) rfl rfl) (.cons (res_tmp rfl) .nil)) rfl ?_
         exact ⟨t3, 0, rfl, ⟨hrt3, by unfold tailS; rw [if_neg (by rw [hb7]; decide), hy1]; show _ = if _ then _ else _; rw [List.length_map, if_neg (by omega), htt3, nilD_tr, List.map_drop]⟩, hM.bel⟩
   · refine seq_call hA rfl rfl rfl (enters_func rfl rfl (fun w => by kernel_rfl)) (ritems_none hM.bel ht (by omega) hb7 hb9) ?_
     rintro _ w34 ⟨rfl, hb33⟩
     replace hM := hM.call hb33
     refine ⟨_, rfl, ?_⟩
     intro a hA
     refine seq_do hA rfl rfl rfl (does_move rfl) ?_
     intro a hA
     refine seq_do (v := .slice none 0 0) hA rfl rfl rfl (does_extract (vs := [.slice none 0 0, .int .i64 10]) rfl rfl) ?_
     intro a hA
     refine seq_do (v := .int .i64 10) hA rfl rfl rfl (does_extract (vs := [.slice none 0 0, .int .i64 10]) rfl rfl) ?_
     intro a hA
     refine seq_do hA rfl rfl rfl (does_assign rfl) ?_
     intro a hA
     refine seq_do hA rfl rfl rfl (does_assign rfl) ?_
     intro a hA
     refine seq_end ?_
     refine hK6 _ _ ?_
     refine wp_seq_k (fun K35 hK35 => ?_)
     refine wp_seq_k (fun K36 hK36 => ?_)
     refine wp_region_lit ?_
     refine seq_do hA rfl rfl rfl (does_move rfl) ?_
     intro a hA
     refine seq_do (v := .bool true) hA rfl rfl rfl (does_bin rfl rfl (fun w => by kernel_rfl)) ?_
     intro a hA
     refine seq_end ?_
     refine hK36 _ _ ?_
     refine wp_cond_true (hA.ev rfl) ?_
     refine wp_seq_k (fun K37 hK37 => ?_)
     refine wp_region_lit ?_
     refine seq_do (v := .agg #[.int .i64 0, .int .i64 0, .bool false, .slice none 0 0, .slice none 0 0, .bool false, .slice none 0 0, .slice none 0 0, .string (⟨#[]⟩), .slice none 0 0, .slice none 0 0]) hA rfl rfl rfl (does_build rfl (fun w => by kernel_rfl)) ?_
     intro a hA
     refine seq_do hA rfl rfl rfl (does_move rfl) ?_
     intro a hA
     refine s_store (us := [.int .i64 0, .int .i64 0, .bool false, .slice none 0 0, .slice none 0 0, .bool false, .slice none 0 0, .slice none 0 0, .string (⟨#[]⟩), .slice none 0 0, .slice none 0 0]) (L' := (.obj g4 (.cells #[.int .i64 0, .int .i64 0, .bool false, .slice none 0 0, .slice none 0 0, .bool false, .slice none 0 0, .slice none 0 0, .string (⟨#[]⟩), .slice none 0 0, .slice none 0 0] 30) :: .obj g2 (.cells (t.d.cells t.ts.length).toArray 30) :: [])) hA hM rfl rfl (m_store rfl rfl rfl (by kernel_rfl) hM 0 rfl rfl rfl) 0 rfl rfl rfl ?_
     intro w38 hM
     refine seq_do hA rfl rfl rfl (does_assign rfl) ?_
     intro a hA
     refine seq_end ?_
     refine hK37 _ _ ?_
     refine wp_ret ?_
     refine hret _ _ ?_
     refine ends (v := .tuple #[.agg #[.int .i64 0, .int .i64 0, .bool false, .slice none 0 0, .slice none 0 0, .bool false, .slice none 0 0, .slice none 0 0, .string (⟨#[]⟩), .slice none 0 0, .slice none 0 0], .int .i64 10]) hA rfl (.cons (res_cellS hM LiN_isS_30 rfl 0 rfl (cs := [.int .i64 0, .int .i64 0, .bool false, .slice none 0 0, .slice none 0 0, .bool false, .slice none 0 0, .slice none 0 0, .string (⟨#[]⟩), .slice none 0 0, .slice none 0 0]) rfl rfl) (.cons (res_tmp rfl) .nil)) rfl ?_
     exact ⟨zeroD, 10, rfl, ⟨zeroD_rd _, by unfold tailS; rw [if_neg (by rw [hb7]; decide), none_of hb9, zeroD_tr]⟩, hM.bel⟩
 · refine seq_call hA rfl rfl rfl (enters_func rfl rfl (fun w => by kernel_rfl)) (ritems_bad hM.bel ht (by omega) hb7) ?_
   rintro _ w40 ⟨rfl, hb39⟩
   replace hM := hM.call hb39
   refine ⟨_, rfl, ?_⟩
   intro a hA
   refine seq_do hA rfl rfl rfl (does_move rfl) ?_
   intro a hA
   refine seq_do (v := .slice none 0 0) hA rfl rfl rfl (does_extract (vs := [.slice none 0 0, .int .i64 2]) rfl rfl) ?_
   intro a hA
   refine seq_do (v := .int .i64 2) hA rfl rfl rfl (does_extract (vs := [.slice none 0 0, .int .i64 2]) rfl rfl) ?_
   intro a hA
   refine seq_do hA rfl rfl rfl (does_assign rfl) ?_
   intro a hA
   refine seq_do hA rfl rfl rfl (does_assign rfl) ?_
   intro a hA
   refine seq_end ?_
   refine hK6 _ _ ?_
   refine wp_seq_k (fun K41 hK41 => ?_)
   refine wp_seq_k (fun K42 hK42 => ?_)
   refine wp_region_lit ?_
   refine seq_do hA rfl rfl rfl (does_move rfl) ?_
   intro a hA
   refine seq_do (v := .bool true) hA rfl rfl rfl (does_bin rfl rfl (fun w => by kernel_rfl)) ?_
   intro a hA
   refine seq_end ?_
   refine hK42 _ _ ?_
   refine wp_cond_true (hA.ev rfl) ?_
   refine wp_seq_k (fun K43 hK43 => ?_)
   refine wp_region_lit ?_
   refine seq_do (v := .agg #[.int .i64 0, .int .i64 0, .bool false, .slice none 0 0, .slice none 0 0, .bool false, .slice none 0 0, .slice none 0 0, .string (⟨#[]⟩), .slice none 0 0, .slice none 0 0]) hA rfl rfl rfl (does_build rfl (fun w => by kernel_rfl)) ?_
   intro a hA
   refine seq_do hA rfl rfl rfl (does_move rfl) ?_
   intro a hA
   refine s_store (us := [.int .i64 0, .int .i64 0, .bool false, .slice none 0 0, .slice none 0 0, .bool false, .slice none 0 0, .slice none 0 0, .string (⟨#[]⟩), .slice none 0 0, .slice none 0 0]) (L' := (.obj g4 (.cells #[.int .i64 0, .int .i64 0, .bool false, .slice none 0 0, .slice none 0 0, .bool false, .slice none 0 0, .slice none 0 0, .string (⟨#[]⟩), .slice none 0 0, .slice none 0 0] 30) :: .obj g2 (.cells (t.d.cells t.ts.length).toArray 30) :: [])) hA hM rfl rfl (m_store rfl rfl rfl (by kernel_rfl) hM 0 rfl rfl rfl) 0 rfl rfl rfl ?_
   intro w44 hM
   refine seq_do hA rfl rfl rfl (does_assign rfl) ?_
   intro a hA
   refine seq_end ?_
   refine hK43 _ _ ?_
   refine wp_ret ?_
   refine hret _ _ ?_
   refine ends (v := .tuple #[.agg #[.int .i64 0, .int .i64 0, .bool false, .slice none 0 0, .slice none 0 0, .bool false, .slice none 0 0, .slice none 0 0, .string (⟨#[]⟩), .slice none 0 0, .slice none 0 0], .int .i64 2]) hA rfl (.cons (res_cellS hM LiN_isS_30 rfl 0 rfl (cs := [.int .i64 0, .int .i64 0, .bool false, .slice none 0 0, .slice none 0 0, .bool false, .slice none 0 0, .slice none 0 0, .string (⟨#[]⟩), .slice none 0 0, .slice none 0 0]) rfl rfl) (.cons (res_tmp rfl) .nil)) rfl ?_
   exact ⟨zeroD, 2, rfl, ⟨zeroD_rd _, by unfold tailS; rw [if_pos hb7, zeroD_tr]⟩, hM.bel⟩
theorem rreverse_any {w : World} {t : Dt} (ht : t.rd w) (hb : t.tr.bulk ≤ 1100000) : Calls Tryz.prog 13 #[.agg (t.d.cells t.ts.length).toArray] w fun e w' => ∃ (t2 : Dt) (k : Int), e = .returned (.tuple #[.agg (t2.d.cells t2.ts.length).toArray, .int .i64 k]) ∧ (t2.rd w' ∧ (t2.tr, k) = revS t.tr) ∧ Below w.heap.size w w' := by
 have hM : Mg w w ([]) := Mg.start w
 refine walk_of (l := [(0, .agg (t.d.cells t.ts.length).toArray)]) Tryz.func13 rfl Tryz.ntmps13 rfl rfl ?_
 intro Q hret hnorm hP a hA
 refine wp_seq_k (fun K1 hK1 => ?_)
 refine wp_region_lit ?_
 refine s_new (vs := [.int .i64 t.d.k, .int .i64 t.d.n, .bool t.d.y.q.b1, .slice t.d.y.o1 t.d.y.q.t1.length t.d.y.c1, .slice t.d.y.o2 t.d.y.q.q1.length t.d.y.c2, .bool t.d.y.q.b2, .slice t.d.y.o3 t.d.y.q.t2.length t.d.y.c3, .slice t.d.y.o4 t.d.y.q.q2.length t.d.y.c4, .string t.d.s, .slice t.d.ro t.d.rl.length t.d.rc, .slice t.d.lo t.ts.length t.d.lc]) (t := 30) hA hM rfl rfl rfl (fun g => .pointer (some ⟨g, 0, none⟩)) (does_box rfl rfl) (by decide) ?_
 intro g2 w3 hM a hA
 refine s_new (vs := [.int .i64 0, .int .i64 0, .bool false, .slice none 0 0, .slice none 0 0, .bool false, .slice none 0 0, .slice none 0 0, .string (⟨#[]⟩), .slice none 0 0, .slice none 0 0]) (t := 30) hA hM rfl rfl rfl (fun g => .pointer (some ⟨g, 0, none⟩)) (does_alloc (z := .agg #[.int .i64 0, .int .i64 0, .bool false, .slice none 0 0, .slice none 0 0, .bool false, .slice none 0 0, .slice none 0 0, .string (⟨#[]⟩), .slice none 0 0, .slice none 0 0]) (by kernel_rfl) rfl) (by decide) ?_
 intro g4 w5 hM a hA
 refine seq_do hA rfl rfl rfl (does_assign rfl) ?_
 intro a hA
 refine seq_end ?_
 refine hK1 _ _ ?_
 refine wp_seq_k (fun K6 hK6 => ?_)
 refine wp_region_lit ?_
 refine seq_do hA rfl rfl rfl (m_loadS hM LiN_isS_30 rfl 1 rfl (cs := [.int .i64 t.d.k, .int .i64 t.d.n, .bool t.d.y.q.b1, .slice t.d.y.o1 t.d.y.q.t1.length t.d.y.c1, .slice t.d.y.o2 t.d.y.q.q1.length t.d.y.c2, .bool t.d.y.q.b2, .slice t.d.y.o3 t.d.y.q.t2.length t.d.y.c3, .slice t.d.y.o4 t.d.y.q.q2.length t.d.y.c4, .string t.d.s, .slice t.d.ro t.d.rl.length t.d.rc, .slice t.d.lo t.ts.length t.d.lc]) rfl rfl) ?_
 intro a hA
 rcases Bool.eq_false_or_eq_true (soundT shapeT t.tr) with hb7 | hb7
 · rcases Bool.eq_false_or_eq_true ((asList t.tr).isSome) with hb9 | hb9
   · refine seq_call hA rfl rfl rfl (enters_func rfl rfl (fun w => by kernel_rfl)) (ritems_some hM.bel ht (by omega) hb7 hb9) ?_
     rintro _ w11 ⟨so7, ca7, ys, rfl, ⟨hy1, hy2, hy3⟩, hM7⟩
     have hyb := asList_bulk hy1
     replace hM : Mg w w11 (.row 30 11 (.slice so7 ys.length ca7) ys.length (cellsOf ys) :: .obj g4 (.cells #[.int .i64 0, .int .i64 0, .bool false, .slice none 0 0, .slice none 0 0, .bool false, .slice none 0 0, .slice none 0 0, .string (⟨#[]⟩), .slice none 0 0, .slice none 0 0] 30) :: .obj g2 (.cells (t.d.cells t.ts.length).toArray 30) :: []) := (hM.both hM7 (noBld_cons (by simp) (noBld_cons (by simp) (noBld_quiet quietL_nil))) (noBld_cons (by simp) (noBld_quiet quietL_nil)))
     refine ⟨_, rfl, ?_⟩
     intro a hA
     refine seq_do hA rfl rfl rfl (does_move rfl) ?_
     intro a hA
     refine seq_do (v := .slice so7 ys.length ca7) hA rfl rfl rfl (does_extract (vs := [.slice so7 ys.length ca7, .int .i64 0]) rfl rfl) ?_
     intro a hA
     refine seq_do (v := .int .i64 0) hA rfl rfl rfl (does_extract (vs := [.slice so7 ys.length ca7, .int .i64 0]) rfl rfl) ?_
     intro a hA
     refine seq_do hA rfl rfl rfl (does_assign rfl) ?_
     intro a hA
     refine seq_do hA rfl rfl rfl (does_assign rfl) ?_
     intro a hA
     refine seq_end ?_
     refine hK6 _ _ ?_
     refine wp_seq_k (fun K12 hK12 => ?_)
     refine wp_seq_k (fun K13 hK13 => ?_)
     refine wp_region_lit ?_
     refine seq_do hA rfl rfl rfl (does_move rfl) ?_
     intro a hA
     refine seq_do (v := .bool false) hA rfl rfl rfl (does_bin rfl rfl (fun w => by kernel_rfl)) ?_
     intro a hA
     refine seq_end ?_
     refine hK13 _ _ ?_
     refine wp_cond_false (hA.ev rfl) ?_
     refine wp_skip ?_
     refine hK12 _ _ ?_
     refine wp_seq_k (fun K14 hK14 => ?_)
     refine wp_region_lit ?_
     refine seq_call hA rfl rfl rfl (enters_func rfl rfl (fun w => by kernel_rfl)) (rnil_any) ?_
     rintro _ w16 ⟨rfl, hb15⟩
     replace hM := hM.call hb15
     refine ⟨_, rfl, ?_⟩
     intro a hA
     refine s_new (vs := [.int .i64 0, .int .i64 0, .bool false, .slice none 0 0, .slice none 0 0, .bool false, .slice none 0 0, .slice none 0 0, .string (⟨#[]⟩), .slice none 0 0, .slice none 0 0]) (t := 30) hA hM rfl rfl rfl (fun g => .pointer (some ⟨g, 0, none⟩)) (does_alloc (z := .agg #[.int .i64 0, .int .i64 0, .bool false, .slice none 0 0, .slice none 0 0, .bool false, .slice none 0 0, .slice none 0 0, .string (⟨#[]⟩), .slice none 0 0, .slice none 0 0]) (by kernel_rfl) rfl) (by decide) ?_
     intro g17 w18 hM a hA
     refine s_store (us := [.int .i64 nilD.d.k, .int .i64 nilD.d.n, .bool nilD.d.y.q.b1, .slice nilD.d.y.o1 nilD.d.y.q.t1.length nilD.d.y.c1, .slice nilD.d.y.o2 nilD.d.y.q.q1.length nilD.d.y.c2, .bool nilD.d.y.q.b2, .slice nilD.d.y.o3 nilD.d.y.q.t2.length nilD.d.y.c3, .slice nilD.d.y.o4 nilD.d.y.q.q2.length nilD.d.y.c4, .string nilD.d.s, .slice nilD.d.ro nilD.d.rl.length nilD.d.rc, .slice nilD.d.lo nilD.ts.length nilD.d.lc]) (L' := (.obj g17 (.cells (nilD.d.cells nilD.ts.length).toArray 30) :: .row 30 11 (.slice so7 ys.length ca7) ys.length (cellsOf ys) :: .obj g4 (.cells #[.int .i64 0, .int .i64 0, .bool false, .slice none 0 0, .slice none 0 0, .bool false, .slice none 0 0, .slice none 0 0, .string (⟨#[]⟩), .slice none 0 0, .slice none 0 0] 30) :: .obj g2 (.cells (t.d.cells t.ts.length).toArray 30) :: [])) hA hM rfl rfl (m_store rfl rfl rfl (by kernel_rfl) hM 0 rfl rfl rfl) 0 rfl rfl rfl ?_
     intro w19 hM
     refine seq_end ?_
     refine hK14 _ _ ?_
     refine wp_seq_k (fun K20 hK20 => ?_)
     refine wp_seq_k (fun K21 hK21 => ?_)
     refine wp_region_lit ?_
     refine seq_do hA rfl rfl rfl (does_assign rfl) ?_
     intro a hA
     refine seq_end ?_
     refine hK21 _ _ ?_
     refine wp_block ?_
     refine wp_loop_n (fun m_ a w1 => ∃ (i : Nat) (z : Dt), m_ = 1 + (ys.length - i) ∧ (i ≤ ys.length ∧ z.rd w1 ∧ z.at_ (fun b => b ≠ g17 ∧ b ≠ g4) ∧ z.tr = linkT (((ys.take i).map Dt.tr).reverse) nilT) ∧ Sl a 32 [(0, .agg (t.d.cells t.ts.length).toArray), (1, .pointer (some ⟨g2, 0, none⟩)), (2, .pointer (some ⟨g4, 0, none⟩)), (3, .int .i64 0), (4, .slice so7 ys.length ca7), (5, .int .i64 0), (6, .pointer (some ⟨g17, 0, none⟩)), (7, .int .i64 (((i : Nat) : Int))), (8, .tuple #[.slice so7 ys.length ca7, .int .i64 0]), (9, .agg (t.d.cells t.ts.length).toArray), (10, .tuple #[.slice so7 ys.length ca7, .int .i64 0]), (11, .slice so7 ys.length ca7), (12, .int .i64 0), (13, .int .i64 0), (14, .bool false), (17, .agg (nilD.d.cells nilD.ts.length).toArray)] ∧ Mg w w1 (.obj g17 (.cells (z.d.cells z.ts.length).toArray 30) :: .row 30 11 (.slice so7 ys.length ca7) ys.length (cellsOf ys) :: .obj g4 (.cells #[.int .i64 0, .int .i64 0, .bool false, .slice none 0 0, .slice none 0 0, .bool false, .slice none 0 0, .slice none 0 0, .string (⟨#[]⟩), .slice none 0 0, .slice none 0 0] 30) :: .obj g2 (.cells (t.d.cells t.ts.length).toArray 30) :: [])) _ ⟨0, nilD, rfl, ⟨Nat.zero_le _, nilD_rd _, nilD_at _, nilD_tr⟩, hA.keep _ ⟨rfl, rfl, rfl, rfl, rfl, rfl, rfl, rfl, rfl, rfl, rfl, rfl, rfl, rfl, rfl, rfl, trivial⟩, hM⟩ ?_
     clear hM hA
     rintro m_ a w22 ⟨i, z, rfl, hinv24, hA, hM⟩ K23 hK23
     obtain ⟨hi0, hzr, hza, hzt⟩ := hinv24
     refine wp_seq_k (fun K25 hK25 => ?_)
     refine wp_seq_k (fun K26 hK26 => ?_)
     refine wp_region_lit ?_
     refine seq_do hA rfl rfl rfl (does_move rfl) ?_
     intro a hA
     refine seq_do hA rfl rfl rfl (does_move rfl) ?_
     intro a hA
     refine seq_do (v := .int .i64 (((ys.length : Nat) : Int))) hA rfl rfl rfl (does_len Tryz.underlying22 rfl) ?_
     intro a hA
     rcases Bool.eq_false_or_eq_true (decide (((i : Nat) : Int) < ((ys.length : Nat) : Int))) with hb27 | hb27
     · have hb27' := of_decide_eq_true hb27
       refine seq_do (v := .bool true) hA rfl rfl rfl (does_bin rfl rfl (fun w => (bin_lss w).trans (by rw [hb27]))) ?_
       intro a hA
       refine seq_end ?_
       refine hK26 _ _ ?_
       refine wp_cond_true (hA.ev rfl) ?_
       refine wp_skip ?_
       refine hK25 _ _ ?_
       refine wp_seq_k (fun K28 hK28 => ?_)
       refine wp_block ?_
       obtain ⟨g9, c9, e9⟩ := row_open (hM.has 1 rfl) (show ys.length ≠ 0 by omega)
       have hso9 : so7 = some ⟨g9, 0, none⟩ := by injection e9
       obtain ⟨t1, it1⟩ : ∃ t1, ys[i]? = some t1 := ⟨_, List.getElem?_eq_getElem (show i < ys.length by omega)⟩
       have rt1_ := hy2 t1 (List.mem_of_getElem? it1)
       obtain ⟨hge6, hlt6⟩ := Ck.lt (hM.has 0 rfl) g17 rfl
       obtain ⟨hge2, hlt2⟩ := Ck.lt (hM.has 2 rfl) g4 rfl
       refine wp_draw (S := fun w1 => Mg w w1 (.row 30 11 (.slice so7 ys.length ca7) ys.length (cellsOf ys) :: [])) (by kernel_rfl) ?_
       replace hM := hM.drew
       refine any_tk hA 0 rfl rfl rfl rfl hP (hM.sub (.cons _ (.cons_cons _ (.cons _ (.cons _ (List.nil_sublist _)))))) (fun w1 hM => does_move rfl) ?_
       intro a hA
       refine any_tk hA 1 rfl rfl rfl rfl hP (hM.sub (.cons _ (.cons_cons _ (.cons _ (.cons _ (List.nil_sublist _)))))) (fun w1 hM => does_move rfl) ?_
       intro a hA
       refine any_tk (v := .pointer (some ⟨g9, 0 + i * 11, none⟩)) hA 2 rfl rfl rfl rfl hP (hM.sub (.cons _ (.cons_cons _ (.cons _ (.cons _ (List.nil_sublist _)))))) (fun w1 hM => does_indexD (k := i) Tryz.underlying22 (by kernel_rfl) rfl rfl rfl hso9 (by omega)) ?_
       intro a hA
       refine any_tk hA 3 rfl rfl rfl rfl hP (hM.sub (.cons _ (.cons_cons _ (.cons _ (.cons _ (List.nil_sublist _)))))) (fun w1 hM => m_loadSO (o := i * 11) (cs := t1.d.cells t1.ts.length) hM 0 rfl hso9 LiN_isS_30 (cellsOf_at it1) rfl rfl) ?_
       intro a hA
       refine any_many (rs := [4, 5]) (by kernel_rfl) (by simp) ⟨?_, ?_, trivial⟩
       · replace hzr : z.rd w22.drew := Dt.keep (Below.refl _ w22).drew _ hzr
         have hdw : w22.drew.heap.size = w22.heap.size := rfl
         refine g_litD (e := 30) (sz := 11) (m := 1) (vs := cellsOf [t1]) hA hM 4 rfl rfl rfl rfl (does_buildSlice rfl (by kernel_rfl)) rfl rfl (by decide) ?_
         intro g5 w29 hM hg5 hb30
         replace hzr := Dt.keep hb30 _ hzr
         refine ⟨(hM.sub (.cons _ (.cons _ (.cons_cons _ (.cons _ (.cons _ (List.nil_sublist _))))))), ?_⟩
         intro a hA
         refine any_one (by kernel_rfl) (op_do hA 5 rfl rfl rfl rfl (m_loadS hM LiN_isS_30 rfl 1 rfl (cs := [.int .i64 z.d.k, .int .i64 z.d.n, .bool z.d.y.q.b1, .slice z.d.y.o1 z.d.y.q.t1.length z.d.y.c1, .slice z.d.y.o2 z.d.y.q.q1.length z.d.y.c2, .bool z.d.y.q.b2, .slice z.d.y.o3 z.d.y.q.t2.length z.d.y.c3, .slice z.d.y.o4 z.d.y.q.q2.length z.d.y.c4, .string z.d.s, .slice z.d.ro z.d.rl.length z.d.rc, .slice z.d.lo z.ts.length z.d.lc]) rfl rfl) (hM.sub (.cons _ (.cons _ (.cons_cons _ (.cons _ (.cons _ (List.nil_sublist _))))))) ?_)
         intro a hA
         have hs31 := hb30.size
         refine any_one (by kernel_rfl) (op_call hA 6 rfl rfl rfl rfl (enters_func rfl rfl (fun w => by kernel_rfl)) (rlist_any (ts := [t1]) (rt_own (hM.has 0 rfl)).1 (fun t ht => by rw [List.mem_singleton.1 ht]; exact Dt.keep hM.bel _ rt1_) hzr (by simp) (fun b => b ≠ g17 ∧ b ≠ g4) (fun b hb => ⟨by omega, by omega⟩) (fun t ht => by rw [List.mem_singleton.1 ht]; exact Dt.at_mono (fun b hb => by constructor <;> omega) _ (Dt.at_lt _ rt1_)) hza) ?_)
         rintro _ w32 ⟨t3, rfl, ⟨hrt3, hat3, htt3⟩, hbl3⟩
         replace hM := hM.call hbl3
         refine ⟨_, rfl, (hM.sub (.cons _ (.cons _ (.cons_cons _ (.cons _ (.cons _ (List.nil_sublist _))))))), ?_⟩
         intro a hA
         refine any_one (by kernel_rfl) (g_storeD (us := [.int .i64 t3.d.k, .int .i64 t3.d.n, .bool t3.d.y.q.b1, .slice t3.d.y.o1 t3.d.y.q.t1.length t3.d.y.c1, .slice t3.d.y.o2 t3.d.y.q.q1.length t3.d.y.c2, .bool t3.d.y.q.b2, .slice t3.d.y.o3 t3.d.y.q.t2.length t3.d.y.c3, .slice t3.d.y.o4 t3.d.y.q.q2.length t3.d.y.c4, .string t3.d.s, .slice t3.d.ro t3.d.rl.length t3.d.rc, .slice t3.d.lo t3.ts.length t3.d.lc]) (L' := (.row 30 11 (.slice (some ⟨g5, 0, none⟩) 1 1) 1 (cellsOf [t1]) :: .obj g17 (.cells (t3.d.cells t3.ts.length).toArray 30) :: .row 30 11 (.slice so7 ys.length ca7) ys.length (cellsOf ys) :: .obj g4 (.cells #[.int .i64 0, .int .i64 0, .bool false, .slice none 0 0, .slice none 0 0, .bool false, .slice none 0 0, .slice none 0 0, .string (⟨#[]⟩), .slice none 0 0, .slice none 0 0] 30) :: .obj g2 (.cells (t.d.cells t.ts.length).toArray 30) :: [])) hA hM 7 rfl rfl rfl (m_store rfl rfl rfl (by kernel_rfl) hM 1 rfl rfl rfl) 1 rfl rfl rfl ?_)
         intro w33 hM hK34
         replace hrt3 := Dt.kept hK34 _ hrt3 (Dt.at_mono (fun b hb => hb.1) _ hat3)
         refine ⟨(hM.sub (.cons _ (.cons _ (.cons_cons _ (.cons _ (.cons _ (List.nil_sublist _))))))), ?_⟩
         refine any_end (by kernel_rfl) ?_
         refine hK28 _ _ ?_
         refine wp_region_lit ?_
         refine seq_do hA rfl rfl rfl (does_move rfl) ?_
         intro a hA
         refine seq_do (v := .int .i64 (((i + 1 : Nat) : Int))) hA rfl rfl rfl (does_bin rfl rfl (ar_add ((in_i64 (by omega) (by omega)).trans (by omega)))) ?_
         intro a hA
         refine seq_do hA rfl rfl rfl (does_assign rfl) ?_
         intro a hA
         refine seq_end ?_
         replace hM : Mg w w33 (.obj g17 (.cells (t3.d.cells t3.ts.length).toArray 30) :: .row 30 11 (.slice so7 ys.length ca7) ys.length (cellsOf ys) :: .obj g4 (.cells #[.int .i64 0, .int .i64 0, .bool false, .slice none 0 0, .slice none 0 0, .bool false, .slice none 0 0, .slice none 0 0, .string (⟨#[]⟩), .slice none 0 0, .slice none 0 0] 30) :: .obj g2 (.cells (t.d.cells t.ts.length).toArray 30) :: []) := by
           have h9 := hM.sub (.cons _ (.cons_cons _ (.cons_cons _ (.cons_cons _ (.cons_cons _ (.refl _))))))
           exact h9
         refine hK23 _ _ _ (by omega) ⟨i + 1, t3, rfl, ⟨by omega, hrt3, hat3, by rw [htt3, hzt, take_tr it1, List.reverse_append]; rfl⟩, hA.keep _ ⟨rfl, rfl, rfl, rfl, rfl, rfl, rfl, rfl, rfl, rfl, rfl, rfl, rfl, rfl, rfl, rfl, trivial⟩, hM⟩
       · refine op_do hA 5 rfl rfl rfl rfl (m_loadS hM LiN_isS_30 rfl 0 rfl (cs := [.int .i64 z.d.k, .int .i64 z.d.n, .bool z.d.y.q.b1, .slice z.d.y.o1 z.d.y.q.t1.length z.d.y.c1, .slice z.d.y.o2 z.d.y.q.q1.length z.d.y.c2, .bool z.d.y.q.b2, .slice z.d.y.o3 z.d.y.q.t2.length z.d.y.c3, .slice z.d.y.o4 z.d.y.q.q2.length z.d.y.c4, .string z.d.s, .slice z.d.ro z.d.rl.length z.d.rc, .slice z.d.lo z.ts.length z.d.lc]) rfl rfl) (hM.sub (.cons _ (.cons_cons _ (.cons _ (.cons _ (List.nil_sublist _)))))) ?_
         intro a hA
         replace hzr : z.rd w22.drew := Dt.keep (Below.refl _ w22).drew _ hzr
         have hdw : w22.drew.heap.size = w22.heap.size := rfl
         refine any_one (by kernel_rfl) (g_litD (e := 30) (sz := 11) (m := 1) (vs := cellsOf [t1]) hA hM 4 rfl rfl rfl rfl (does_buildSlice rfl (by kernel_rfl)) rfl rfl (by decide) ?_)
         intro g5 w35 hM hg5 hb36
         replace hzr := Dt.keep hb36 _ hzr
         refine ⟨(hM.sub (.cons _ (.cons _ (.cons_cons _ (.cons _ (.cons _ (List.nil_sublist _))))))), ?_⟩
         intro a hA
         have hs37 := hb36.size
         refine any_one (by kernel_rfl) (op_call hA 6 rfl rfl rfl rfl (enters_func rfl rfl (fun w => by kernel_rfl)) (rlist_any (ts := [t1]) (rt_own (hM.has 0 rfl)).1 (fun t ht => by rw [List.mem_singleton.1 ht]; exact Dt.keep hM.bel _ rt1_) hzr (by simp) (fun b => b ≠ g17 ∧ b ≠ g4) (fun b hb => ⟨by omega, by omega⟩) (fun t ht => by rw [List.mem_singleton.1 ht]; exact Dt.at_mono (fun b hb => by constructor <;> omega) _ (Dt.at_lt _ rt1_)) hza) ?_)
         rintro _ w38 ⟨t3, rfl, ⟨hrt3, hat3, htt3⟩, hbl3⟩
         replace hM := hM.call hbl3
         refine ⟨_, rfl, (hM.sub (.cons _ (.cons _ (.cons_cons _ (.cons _ (.cons _ (List.nil_sublist _))))))), ?_⟩
         intro a hA
         refine any_one (by kernel_rfl) (g_storeD (us := [.int .i64 t3.d.k, .int .i64 t3.d.n, .bool t3.d.y.q.b1, .slice t3.d.y.o1 t3.d.y.q.t1.length t3.d.y.c1, .slice t3.d.y.o2 t3.d.y.q.q1.length t3.d.y.c2, .bool t3.d.y.q.b2, .slice t3.d.y.o3 t3.d.y.q.t2.length t3.d.y.c3, .slice t3.d.y.o4 t3.d.y.q.q2.length t3.d.y.c4, .string t3.d.s, .slice t3.d.ro t3.d.rl.length t3.d.rc, .slice t3.d.lo t3.ts.length t3.d.lc]) (L' := (.row 30 11 (.slice (some ⟨g5, 0, none⟩) 1 1) 1 (cellsOf [t1]) :: .obj g17 (.cells (t3.d.cells t3.ts.length).toArray 30) :: .row 30 11 (.slice so7 ys.length ca7) ys.length (cellsOf ys) :: .obj g4 (.cells #[.int .i64 0, .int .i64 0, .bool false, .slice none 0 0, .slice none 0 0, .bool false, .slice none 0 0, .slice none 0 0, .string (⟨#[]⟩), .slice none 0 0, .slice none 0 0] 30) :: .obj g2 (.cells (t.d.cells t.ts.length).toArray 30) :: [])) hA hM 7 rfl rfl rfl (m_store rfl rfl rfl (by kernel_rfl) hM 1 rfl rfl rfl) 1 rfl rfl rfl ?_)
         intro w39 hM hK40
         replace hrt3 := Dt.kept hK40 _ hrt3 (Dt.at_mono (fun b hb => hb.1) _ hat3)
         refine ⟨(hM.sub (.cons _ (.cons _ (.cons_cons _ (.cons _ (.cons _ (List.nil_sublist _))))))), ?_⟩
         refine any_end (by kernel_rfl) ?_
         refine hK28 _ _ ?_
         refine wp_region_lit ?_
         refine seq_do hA rfl rfl rfl (does_move rfl) ?_
         intro a hA
         refine seq_do (v := .int .i64 (((i + 1 : Nat) : Int))) hA rfl rfl rfl (does_bin rfl rfl (ar_add ((in_i64 (by omega) (by omega)).trans (by omega)))) ?_
         intro a hA
         refine seq_do hA rfl rfl rfl (does_assign rfl) ?_
         intro a hA
         refine seq_end ?_
         replace hM : Mg w w39 (.obj g17 (.cells (t3.d.cells t3.ts.length).toArray 30) :: .row 30 11 (.slice so7 ys.length ca7) ys.length (cellsOf ys) :: .obj g4 (.cells #[.int .i64 0, .int .i64 0, .bool false, .slice none 0 0, .slice none 0 0, .bool false, .slice none 0 0, .slice none 0 0, .string (⟨#[]⟩), .slice none 0 0, .slice none 0 0] 30) :: .obj g2 (.cells (t.d.cells t.ts.length).toArray 30) :: []) := by
           have h9 := hM.sub (.cons _ (.cons_cons _ (.cons_cons _ (.cons_cons _ (.cons_cons _ (.refl _))))))
           exact h9
         refine hK23 _ _ _ (by omega) ⟨i + 1, t3, rfl, ⟨by omega, hrt3, hat3, by rw [htt3, hzt, take_tr it1, List.reverse_append]; rfl⟩, hA.keep _ ⟨rfl, rfl, rfl, rfl, rfl, rfl, rfl, rfl, rfl, rfl, rfl, rfl, rfl, rfl, rfl, rfl, trivial⟩, hM⟩
     · have hb27' := of_decide_eq_false hb27
       refine seq_do (v := .bool false) hA rfl rfl rfl (does_bin rfl rfl (fun w => (bin_lss w).trans (by rw [hb27]))) ?_
       intro a hA
       refine seq_end ?_
       refine hK26 _ _ ?_
       refine wp_cond_false (hA.ev rfl) ?_
       refine wp_exit ?_
       refine hK20 _ _ ?_
       refine wp_seq_k (fun K41 hK41 => ?_)
       refine wp_region_lit ?_
       refine seq_do hA rfl rfl rfl (m_loadS hM LiN_isS_30 rfl 0 rfl (cs := [.int .i64 z.d.k, .int .i64 z.d.n, .bool z.d.y.q.b1, .slice z.d.y.o1 z.d.y.q.t1.length z.d.y.c1, .slice z.d.y.o2 z.d.y.q.q1.length z.d.y.c2, .bool z.d.y.q.b2, .slice z.d.y.o3 z.d.y.q.t2.length z.d.y.c3, .slice z.d.y.o4 z.d.y.q.q2.length z.d.y.c4, .string z.d.s, .slice z.d.ro z.d.rl.length z.d.rc, .slice z.d.lo z.ts.length z.d.lc]) rfl rfl) ?_
       intro a hA
       refine s_storeD (us := [.int .i64 z.d.k, .int .i64 z.d.n, .bool z.d.y.q.b1, .slice z.d.y.o1 z.d.y.q.t1.length z.d.y.c1, .slice z.d.y.o2 z.d.y.q.q1.length z.d.y.c2, .bool z.d.y.q.b2, .slice z.d.y.o3 z.d.y.q.t2.length z.d.y.c3, .slice z.d.y.o4 z.d.y.q.q2.length z.d.y.c4, .string z.d.s, .slice z.d.ro z.d.rl.length z.d.rc, .slice z.d.lo z.ts.length z.d.lc]) (L' := (.obj g17 (.cells (z.d.cells z.ts.length).toArray 30) :: .row 30 11 (.slice so7 ys.length ca7) ys.length (cellsOf ys) :: .obj g4 (.cells (z.d.cells z.ts.length).toArray 30) :: .obj g2 (.cells (t.d.cells t.ts.length).toArray 30) :: [])) hA hM rfl rfl (m_store rfl rfl rfl (by kernel_rfl) hM 2 rfl rfl rfl) 2 rfl rfl rfl ?_
       intro w42 hM hK43
       replace hzr := Dt.kept hK43 _ hzr (Dt.at_mono (fun b hb => hb.2) _ hza)
       refine seq_do hA rfl rfl rfl (does_assign rfl) ?_
       intro a hA
       refine seq_end ?_
       refine hK41 _ _ ?_
       refine wp_ret ?_
       refine hret _ _ ?_
       refine ends (v := .tuple #[.agg (z.d.cells z.ts.length).toArray, .int .i64 0]) hA rfl (.cons (res_cellS hM LiN_isS_30 rfl 2 rfl (cs := [.int .i64 z.d.k, .int .i64 z.d.n, .bool z.d.y.q.b1, .slice z.d.y.o1 z.d.y.q.t1.length z.d.y.c1, .slice z.d.y.o2 z.d.y.q.q1.length z.d.y.c2, .bool z.d.y.q.b2, .slice z.d.y.o3 z.d.y.q.t2.length z.d.y.c3, .slice z.d.y.o4 z.d.y.q.q2.length z.d.y.c4, .string z.d.s, .slice z.d.ro z.d.rl.length z.d.rc, .slice z.d.lo z.ts.length z.d.lc]) rfl rfl) (.cons (res_tmp rfl) .nil)) rfl ?_
       exact ⟨z, 0, rfl, ⟨hzr, by unfold revS; rw [if_neg (by rw [hb7]; decide), hy1, hzt, List.take_of_length_le (show ys.length ≤ i by omega)]⟩, hM.bel⟩
   · refine seq_call hA rfl rfl rfl (enters_func rfl rfl (fun w => by kernel_rfl)) (ritems_none hM.bel ht (by omega) hb7 hb9) ?_
     rintro _ w45 ⟨rfl, hb44⟩
     replace hM := hM.call hb44
     refine ⟨_, rfl, ?_⟩
     intro a hA
     refine seq_do hA rfl rfl rfl (does_move rfl) ?_
     intro a hA
     refine seq_do (v := .slice none 0 0) hA rfl rfl rfl (does_extract (vs := [.slice none 0 0, .int .i64 10]) rfl rfl) ?_
     intro a hA
     refine seq_do (v := .int .i64 10) hA rfl rfl rfl (does_extract (vs := [.slice none 0 0, .int .i64 10]) rfl rfl) ?_
     intro a hA
     refine seq_do hA rfl rfl rfl (does_assign rfl) ?_
     intro a hA
     refine seq_do hA rfl rfl rfl (does_assign rfl) ?_
     intro a hA
     refine seq_end ?_
     refine hK6 _ _ ?_
     refine wp_seq_k (fun K46 hK46 => ?_)
     refine wp_seq_k (fun K47 hK47 => ?_)
     refine wp_region_lit ?_
     refine seq_do hA rfl rfl rfl (does_move rfl) ?_
     intro a hA
     refine seq_do (v := .bool true) hA rfl rfl rfl (does_bin rfl rfl (fun w => by kernel_rfl)) ?_
     intro a hA
     refine seq_end ?_
     refine hK47 _ _ ?_
     refine wp_cond_true (hA.ev rfl) ?_
     refine wp_seq_k (fun K48 hK48 => ?_)
     refine wp_region_lit ?_
     refine seq_do (v := .agg #[.int .i64 0, .int .i64 0, .bool false, .slice none 0 0, .slice none 0 0, .bool false, .slice none 0 0, .slice none 0 0, .string (⟨#[]⟩), .slice none 0 0, .slice none 0 0]) hA rfl rfl rfl (does_build rfl (fun w => by kernel_rfl)) ?_
     intro a hA
     refine seq_do hA rfl rfl rfl (does_move rfl) ?_
     intro a hA
     refine s_store (us := [.int .i64 0, .int .i64 0, .bool false, .slice none 0 0, .slice none 0 0, .bool false, .slice none 0 0, .slice none 0 0, .string (⟨#[]⟩), .slice none 0 0, .slice none 0 0]) (L' := (.obj g4 (.cells #[.int .i64 0, .int .i64 0, .bool false, .slice none 0 0, .slice none 0 0, .bool false, .slice none 0 0, .slice none 0 0, .string (⟨#[]⟩), .slice none 0 0, .slice none 0 0] 30) :: .obj g2 (.cells (t.d.cells t.ts.length).toArray 30) :: [])) hA hM rfl rfl (m_store rfl rfl rfl (by kernel_rfl) hM 0 rfl rfl rfl) 0 rfl rfl rfl ?_
     intro w49 hM
     refine seq_do hA rfl rfl rfl (does_assign rfl) ?_
     intro a hA
     refine seq_end ?_
     refine hK48 _ _ ?_
     refine wp_ret ?_
     refine hret _ _ ?_
     refine ends (v := .tuple #[.agg #[.int .i64 0, .int .i64 0, .bool false, .slice none 0 0, .slice none 0 0, .bool false, .slice none 0 0, .slice none 0 0, .string (⟨#[]⟩), .slice none 0 0, .slice none 0 0], .int .i64 10]) hA rfl (.cons (res_cellS hM LiN_isS_30 rfl 0 rfl (cs := [.int .i64 0, .int .i64 0, .bool false, .slice none 0 0, .slice none 0 0, .bool false, .slice none 0 0, .slice none 0 0, .string (⟨#[]⟩), .slice none 0 0, .slice none 0 0]) rfl rfl) (.cons (res_tmp rfl) .nil)) rfl ?_
     exact ⟨zeroD, 10, rfl, ⟨zeroD_rd _, by unfold revS; rw [if_neg (by rw [hb7]; decide), none_of hb9, zeroD_tr]⟩, hM.bel⟩
 · refine seq_call hA rfl rfl rfl (enters_func rfl rfl (fun w => by kernel_rfl)) (ritems_bad hM.bel ht (by omega) hb7) ?_
   rintro _ w51 ⟨rfl, hb50⟩
   replace hM := hM.call hb50
   refine ⟨_, rfl, ?_⟩
   intro a hA
   refine seq_do hA rfl rfl rfl (does_move rfl) ?_
   intro a hA
   refine seq_do (v := .slice none 0 0) hA rfl rfl rfl (does_extract (vs := [.slice none 0 0, .int .i64 2]) rfl rfl) ?_
   intro a hA
   refine seq_do (v := .int .i64 2) hA rfl rfl rfl (does_extract (vs := [.slice none 0 0, .int .i64 2]) rfl rfl) ?_
   intro a hA
   refine seq_do hA rfl rfl rfl (does_assign rfl) ?_
   intro a hA
   refine seq_do hA rfl rfl rfl (does_assign rfl) ?_
   intro a hA
   refine seq_end ?_
   refine hK6 _ _ ?_
   refine wp_seq_k (fun K52 hK52 => ?_)
   refine wp_seq_k (fun K53 hK53 => ?_)
   refine wp_region_lit ?_
   refine seq_do hA rfl rfl rfl (does_move rfl) ?_
   intro a hA
   refine seq_do (v := .bool true) hA rfl rfl rfl (does_bin rfl rfl (fun w => by kernel_rfl)) ?_
   intro a hA
   refine seq_end ?_
   refine hK53 _ _ ?_
   refine wp_cond_true (hA.ev rfl) ?_
   refine wp_seq_k (fun K54 hK54 => ?_)
   refine wp_region_lit ?_
   refine seq_do (v := .agg #[.int .i64 0, .int .i64 0, .bool false, .slice none 0 0, .slice none 0 0, .bool false, .slice none 0 0, .slice none 0 0, .string (⟨#[]⟩), .slice none 0 0, .slice none 0 0]) hA rfl rfl rfl (does_build rfl (fun w => by kernel_rfl)) ?_
   intro a hA
   refine seq_do hA rfl rfl rfl (does_move rfl) ?_
   intro a hA
   refine s_store (us := [.int .i64 0, .int .i64 0, .bool false, .slice none 0 0, .slice none 0 0, .bool false, .slice none 0 0, .slice none 0 0, .string (⟨#[]⟩), .slice none 0 0, .slice none 0 0]) (L' := (.obj g4 (.cells #[.int .i64 0, .int .i64 0, .bool false, .slice none 0 0, .slice none 0 0, .bool false, .slice none 0 0, .slice none 0 0, .string (⟨#[]⟩), .slice none 0 0, .slice none 0 0] 30) :: .obj g2 (.cells (t.d.cells t.ts.length).toArray 30) :: [])) hA hM rfl rfl (m_store rfl rfl rfl (by kernel_rfl) hM 0 rfl rfl rfl) 0 rfl rfl rfl ?_
   intro w55 hM
   refine seq_do hA rfl rfl rfl (does_assign rfl) ?_
   intro a hA
   refine seq_end ?_
   refine hK54 _ _ ?_
   refine wp_ret ?_
   refine hret _ _ ?_
   refine ends (v := .tuple #[.agg #[.int .i64 0, .int .i64 0, .bool false, .slice none 0 0, .slice none 0 0, .bool false, .slice none 0 0, .slice none 0 0, .string (⟨#[]⟩), .slice none 0 0, .slice none 0 0], .int .i64 2]) hA rfl (.cons (res_cellS hM LiN_isS_30 rfl 0 rfl (cs := [.int .i64 0, .int .i64 0, .bool false, .slice none 0 0, .slice none 0 0, .bool false, .slice none 0 0, .slice none 0 0, .string (⟨#[]⟩), .slice none 0 0, .slice none 0 0]) rfl rfl) (.cons (res_tmp rfl) .nil)) rfl ?_
   exact ⟨zeroD, 2, rfl, ⟨zeroD_rd _, by unfold revS; rw [if_pos hb7, zeroD_tr]⟩, hM.bel⟩
theorem all_no {ts : List Dt} {t : Dt} (h : t ∈ ts) (hs : soundT shapeT t.tr = false) : (ts.all fun t => soundT shapeT t.tr) = false := by
  apply Bool.eq_false_iff.2
  intro k
  rw [List.all_eq_true.1 k t h] at hs
  cases hs
theorem all_snoc {ts : List Dt} {i : Nat} {t : Dt} (h : ((ts.take i).all fun t => soundT shapeT t.tr) = true) (hi : ts[i]? = some t) (hs : soundT shapeT t.tr = true) : ((ts.take (i + 1)).all fun t => soundT shapeT t.tr) = true := by
  obtain ⟨hl, rfl⟩ := List.getElem?_eq_some_iff.1 hi
  rw [List.take_succ_eq_append_getElem hl, List.all_append, h, List.all_cons, hs]
  rfl
theorem join_cut {ts : List Dt} {i : Nat} {t : Dt} {xs : List Tr} (h : joinS ((ts.take i).map Dt.tr) = some xs) (hi : ts[i]? = some t) (ht : asList t.tr = none) (hlt : i < ts.length - 1) : joinS ((ts.take (ts.length - 1)).map Dt.tr) = none := by
  refine join_stop (ts := ts.take (ts.length - 1)) (i := i) (xs := xs) ?_ ?_ ht
  · rw [List.take_take, Nat.min_eq_left (by omega)]; exact h
  · rw [List.getElem?_take, if_pos hlt]; exact hi
theorem rappend_any {w : World} {so : Option Addr} {ca : Nat} {ts : List Dt} (hR : Rt w so ts) (hD : ∀ t ∈ ts, t.rd w) (hb : Tr.bulks (ts.map Dt.tr) ≤ 1100000) : Calls Tryz.prog 11 #[.slice so ts.length ca] w fun e w' => ∃ (t2 : Dt) (k : Int), e = .returned (.tuple #[.agg (t2.d.cells t2.ts.length).toArray, .int .i64 k]) ∧ (t2.rd w' ∧ (t2.tr, k) = appS (ts.map Dt.tr)) ∧ Below w.heap.size w w' := by
 have hbl := bulks_len ts
 have hM : Mg w w ([]) := Mg.start w
 refine walk_of (l := [(0, .slice so ts.length ca)]) Tryz.func11 rfl Tryz.ntmps11 rfl rfl ?_
 intro Q hret hnorm hP a hA
 refine wp_seq_k (fun K1 hK1 => ?_)
 refine wp_region_lit ?_
 refine s_new (vs := [.int .i64 0, .int .i64 0, .bool false, .slice none 0 0, .slice none 0 0, .bool false, .slice none 0 0, .slice none 0 0, .string (⟨#[]⟩), .slice none 0 0, .slice none 0 0]) (t := 30) hA hM rfl rfl rfl (fun g => .pointer (some ⟨g, 0, none⟩)) (does_alloc (z := .agg #[.int .i64 0, .int .i64 0, .bool false, .slice none 0 0, .slice none 0 0, .bool false, .slice none 0 0, .slice none 0 0, .string (⟨#[]⟩), .slice none 0 0, .slice none 0 0]) (by kernel_rfl) rfl) (by decide) ?_
 intro g2 w3 hM a hA
 refine seq_do hA rfl rfl rfl (does_assign rfl) ?_
 intro a hA
 refine seq_end ?_
 refine hK1 _ _ ?_
 refine wp_seq_k (fun K4 hK4 => ?_)
 refine wp_seq_k (fun K5 hK5 => ?_)
 refine wp_region_lit ?_
 refine seq_do hA rfl rfl rfl (does_assign rfl) ?_
 intro a hA
 refine seq_end ?_
 refine hK5 _ _ ?_
 refine wp_block ?_
 refine wp_loop_n (fun m_ a w1 => ∃ (i : Nat), m_ = 1 + (ts.length - i) ∧ (i ≤ ts.length ∧ ((ts.take i).all fun t => soundT shapeT t.tr) = true) ∧ Sl a 60 [(0, .slice so ts.length ca), (2, .pointer (some ⟨g2, 0, none⟩)), (4, .int .i64 (((i : Nat) : Int)))] ∧ Mg w w1 (.obj g2 (.cells #[.int .i64 0, .int .i64 0, .bool false, .slice none 0 0, .slice none 0 0, .bool false, .slice none 0 0, .slice none 0 0, .string (⟨#[]⟩), .slice none 0 0, .slice none 0 0] 30) :: [])) _ ⟨0, rfl, ⟨Nat.zero_le _, rfl⟩, hA.keep _ ⟨rfl, rfl, rfl, trivial⟩, hM⟩ ?_
 clear hM hA
 rintro m_ a w6 ⟨i, rfl, hinv8, hA, hM⟩ K7 hK7
 obtain ⟨hi0, hin8⟩ := hinv8
 refine wp_seq_k (fun K9 hK9 => ?_)
 refine wp_seq_k (fun K10 hK10 => ?_)
 refine wp_region_lit ?_
 refine seq_do hA rfl rfl rfl (does_move rfl) ?_
 intro a hA
 refine seq_do hA rfl rfl rfl (does_move rfl) ?_
 intro a hA
 refine seq_do (v := .int .i64 (((ts.length : Nat) : Int))) hA rfl rfl rfl (does_len Tryz.underlying22 rfl) ?_
 intro a hA
 rcases Bool.eq_false_or_eq_true (decide (((i : Nat) : Int) < ((ts.length : Nat) : Int))) with hb11 | hb11
 · have hb11' := of_decide_eq_true hb11
   refine seq_do (v := .bool true) hA rfl rfl rfl (does_bin rfl rfl (fun w => (bin_lss w).trans (by rw [hb11]))) ?_
   intro a hA
   refine seq_end ?_
   refine hK10 _ _ ?_
   refine wp_cond_true (hA.ev rfl) ?_
   refine wp_skip ?_
   refine hK9 _ _ ?_
   refine wp_seq_k (fun K12 hK12 => ?_)
   refine wp_block ?_
   refine wp_seq_k (fun K13 hK13 => ?_)
   obtain ⟨t1, bt1, ot1, it1, mt1, rt1_, lt1, Ht1⟩ := kidL hR hD (i := i) (by omega)
   refine wp_region_lit ?_
   refine seq_do hA rfl rfl rfl (does_move rfl) ?_
   intro a hA
   refine seq_do hA rfl rfl rfl (does_move rfl) ?_
   intro a hA
   refine seq_do (v := .pointer (some ⟨bt1, ot1 + i * 11, none⟩)) hA rfl rfl rfl (does_indexD (k := i) Tryz.underlying22 (by kernel_rfl) rfl rfl rfl lt1 (by omega)) ?_
   intro a hA
   refine seq_do hA rfl rfl rfl (m_loadHS hM Ht1 LiN_isS_30 rfl rfl) ?_
   intro a hA
   rcases Bool.eq_false_or_eq_true (soundT shapeT t1.tr) with hb14 | hb14
   · refine seq_call hA rfl rfl rfl (enters_func rfl rfl (fun w => by kernel_rfl)) ((hb14 ▸ rsound_any (t := t1) (Dt.keep hM.bel _ rt1_) (by have := bulk_in mt1; omega))) ?_
     rintro _ w16 ⟨rfl, hb15⟩
     replace hM := hM.call hb15
     refine ⟨_, rfl, ?_⟩
     intro a hA
     refine seq_do (v := .bool false) hA rfl rfl rfl (does_un rfl un_not) ?_
     intro a hA
     refine seq_end ?_
     refine hK13 _ _ ?_
     refine wp_cond_false (hA.ev rfl) ?_
     refine wp_skip ?_
     refine hK12 _ _ ?_
     refine wp_region_lit ?_
     refine seq_do hA rfl rfl rfl (does_move rfl) ?_
     intro a hA
     refine seq_do (v := .int .i64 (((i + 1 : Nat) : Int))) hA rfl rfl rfl (does_bin rfl rfl (ar_add ((in_i64 (by omega) (by omega)).trans (by omega)))) ?_
     intro a hA
     refine seq_do hA rfl rfl rfl (does_assign rfl) ?_
     intro a hA
     refine seq_end ?_
     refine hK7 _ _ _ (by omega) ⟨i + 1, rfl, ⟨by omega, all_snoc hin8 it1 hb14⟩, hA.keep _ ⟨rfl, rfl, rfl, trivial⟩, hM⟩
   · refine seq_call hA rfl rfl rfl (enters_func rfl rfl (fun w => by kernel_rfl)) ((hb14 ▸ rsound_any (t := t1) (Dt.keep hM.bel _ rt1_) (by have := bulk_in mt1; omega))) ?_
     rintro _ w18 ⟨rfl, hb17⟩
     replace hM := hM.call hb17
     refine ⟨_, rfl, ?_⟩
     intro a hA
     refine seq_do (v := .bool true) hA rfl rfl rfl (does_un rfl un_not) ?_
     intro a hA
     refine seq_end ?_
     refine hK13 _ _ ?_
     refine wp_cond_true (hA.ev rfl) ?_
     refine wp_seq_k (fun K19 hK19 => ?_)
     refine wp_region_lit ?_
     refine seq_do (v := .agg #[.int .i64 0, .int .i64 0, .bool false, .slice none 0 0, .slice none 0 0, .bool false, .slice none 0 0, .slice none 0 0, .string (⟨#[]⟩), .slice none 0 0, .slice none 0 0]) hA rfl rfl rfl (does_build rfl (fun w => by kernel_rfl)) ?_
     intro a hA
     refine s_store (us := [.int .i64 0, .int .i64 0, .bool false, .slice none 0 0, .slice none 0 0, .bool false, .slice none 0 0, .slice none 0 0, .string (⟨#[]⟩), .slice none 0 0, .slice none 0 0]) (L' := (.obj g2 (.cells #[.int .i64 0, .int .i64 0, .bool false, .slice none 0 0, .slice none 0 0, .bool false, .slice none 0 0, .slice none 0 0, .string (⟨#[]⟩), .slice none 0 0, .slice none 0 0] 30) :: [])) hA hM rfl rfl (m_store rfl rfl rfl (by kernel_rfl) hM 0 rfl rfl rfl) 0 rfl rfl rfl ?_
     intro w20 hM
     refine seq_do hA rfl rfl rfl (does_assign rfl) ?_
     intro a hA
     refine seq_end ?_
     refine hK19 _ _ ?_
     refine wp_ret ?_
     refine hret _ _ ?_
     refine ends (v := .tuple #[.agg #[.int .i64 0, .int .i64 0, .bool false, .slice none 0 0, .slice none 0 0, .bool false, .slice none 0 0, .slice none 0 0, .string (⟨#[]⟩), .slice none 0 0, .slice none 0 0], .int .i64 2]) hA rfl (.cons (res_cellS hM LiN_isS_30 rfl 0 rfl (cs := [.int .i64 0, .int .i64 0, .bool false, .slice none 0 0, .slice none 0 0, .bool false, .slice none 0 0, .slice none 0 0, .string (⟨#[]⟩), .slice none 0 0, .slice none 0 0]) rfl rfl) (.cons (res_tmp rfl) .nil)) rfl ?_
     exact ⟨zeroD, 2, rfl, ⟨zeroD_rd _, by rw [appS_bad (all_no mt1 hb14), zeroD_tr]⟩, hM.bel⟩
 · have hb11' := of_decide_eq_false hb11
   refine seq_do (v := .bool false) hA rfl rfl rfl (does_bin rfl rfl (fun w => (bin_lss w).trans (by rw [hb11]))) ?_
   intro a hA
   refine seq_end ?_
   refine hK10 _ _ ?_
   refine wp_cond_false (hA.ev rfl) ?_
   refine wp_exit ?_
   refine hK4 _ _ ?_
   refine wp_seq_k (fun K21 hK21 => ?_)
   refine wp_seq_k (fun K22 hK22 => ?_)
   refine wp_region_lit ?_
   refine seq_do hA rfl rfl rfl (does_move rfl) ?_
   intro a hA
   refine seq_do (v := .int .i64 (((ts.length : Nat) : Int))) hA rfl rfl rfl (does_len Tryz.underlying22 rfl) ?_
   intro a hA
   rcases Bool.eq_false_or_eq_true ((((ts.length : Nat) : Int) == 0)) with hb23 | hb23
   · have hb23' := eq_of_beq hb23
     refine seq_do (v := .bool true) hA rfl rfl rfl (does_bin rfl rfl (fun w => (bin_eql w).trans (by rw [hb23]))) ?_
     intro a hA
     refine seq_end ?_
     refine hK22 _ _ ?_
     refine wp_cond_true (hA.ev rfl) ?_
     refine wp_seq_k (fun K24 hK24 => ?_)
     refine wp_region_lit ?_
     refine seq_call hA rfl rfl rfl (enters_func rfl rfl (fun w => by kernel_rfl)) (rnil_any) ?_
     rintro _ w26 ⟨rfl, hb25⟩
     replace hM := hM.call hb25
     refine ⟨_, rfl, ?_⟩
     intro a hA
     refine s_store (us := [.int .i64 nilD.d.k, .int .i64 nilD.d.n, .bool nilD.d.y.q.b1, .slice nilD.d.y.o1 nilD.d.y.q.t1.length nilD.d.y.c1, .slice nilD.d.y.o2 nilD.d.y.q.q1.length nilD.d.y.c2, .bool nilD.d.y.q.b2, .slice nilD.d.y.o3 nilD.d.y.q.t2.length nilD.d.y.c3, .slice nilD.d.y.o4 nilD.d.y.q.q2.length nilD.d.y.c4, .string nilD.d.s, .slice nilD.d.ro nilD.d.rl.length nilD.d.rc, .slice nilD.d.lo nilD.ts.length nilD.d.lc]) (L' := (.obj g2 (.cells (nilD.d.cells nilD.ts.length).toArray 30) :: [])) hA hM rfl rfl (m_store rfl rfl rfl (by kernel_rfl) hM 0 rfl rfl rfl) 0 rfl rfl rfl ?_
     intro w27 hM
     refine seq_do hA rfl rfl rfl (does_assign rfl) ?_
     intro a hA
     refine seq_end ?_
     refine hK24 _ _ ?_
     refine wp_ret ?_
     refine hret _ _ ?_
     refine ends (v := .tuple #[.agg (nilD.d.cells nilD.ts.length).toArray, .int .i64 0]) hA rfl (.cons (res_cellS hM LiN_isS_30 rfl 0 rfl (cs := [.int .i64 nilD.d.k, .int .i64 nilD.d.n, .bool nilD.d.y.q.b1, .slice nilD.d.y.o1 nilD.d.y.q.t1.length nilD.d.y.c1, .slice nilD.d.y.o2 nilD.d.y.q.q1.length nilD.d.y.c2, .bool nilD.d.y.q.b2, .slice nilD.d.y.o3 nilD.d.y.q.t2.length nilD.d.y.c3, .slice nilD.d.y.o4 nilD.d.y.q.q2.length nilD.d.y.c4, .string nilD.d.s, .slice nilD.d.ro nilD.d.rl.length nilD.d.rc, .slice nilD.d.lo nilD.ts.length nilD.d.lc]) rfl rfl) (.cons (res_tmp rfl) .nil)) rfl ?_
     have e9 : ts = [] := List.length_eq_zero_iff.1 (by omega)
     exact ⟨nilD, 0, rfl, ⟨nilD_rd _, by rw [e9]; exact (Prod.ext nilD_tr rfl : (nilD.tr, (0 : Int)) = (nilT, 0)).trans appS_nil.symm⟩, hM.bel⟩
   · have hb23' := ne_of_beq_false hb23
     refine seq_do (v := .bool false) hA rfl rfl rfl (does_bin rfl rfl (fun w => (bin_eql w).trans (by rw [hb23]))) ?_
     intro a hA
     refine seq_end ?_
     refine hK22 _ _ ?_
     refine wp_cond_false (hA.ev rfl) ?_
     refine wp_skip ?_
     refine hK21 _ _ ?_
     refine wp_seq_k (fun K28 hK28 => ?_)
     refine wp_region_lit ?_
     refine s_litE (e := 30) (sz := 11) (m := 0) (vs := cellsOf []) hA hM rfl rfl rfl (does_buildSlice rfl (by kernel_rfl)) rfl rfl (.inl (by decide)) ?_
     intro g29 w30 hM a hA
     refine seq_do hA rfl rfl rfl (does_assign rfl) ?_
     intro a hA
     refine seq_end ?_
     refine hK28 _ _ ?_
     refine wp_seq_k (fun K31 hK31 => ?_)
     refine wp_seq_k (fun K32 hK32 => ?_)
     refine wp_region_lit ?_
     refine seq_do hA rfl rfl rfl (does_assign rfl) ?_
     intro a hA
     refine seq_end ?_
     refine hK32 _ _ ?_
     refine wp_block ?_
     have hall : (ts.all fun t => soundT shapeT t.tr) = true := by rw [List.take_of_length_le (show ts.length ≤ i by omega)] at hin8; exact hin8
     refine wp_loop_n (fun m_ a w1 => ∃ (j : Nat) (xs : List Dt) (so_ : Option Addr) (ca_ : Nat), m_ = 1 + (ts.length - j) ∧ (j ≤ ts.length - 1 ∧ (∀ x ∈ xs, x.rd w) ∧ Tr.bulks (xs.map Dt.tr) ≤ Tr.bulks ((ts.take j).map Dt.tr) ∧ joinS ((ts.take j).map Dt.tr) = some (xs.map Dt.tr)) ∧ Sl a 60 [(0, .slice so ts.length ca), (2, .pointer (some ⟨g2, 0, none⟩)), (4, .int .i64 (((i : Nat) : Int))), (5, .slice so_ xs.length ca_), (6, .int .i64 (((j : Nat) : Int))), (9, .int .i64 (((i : Nat) : Int))), (10, .slice so ts.length ca), (11, .int .i64 (((ts.length : Nat) : Int))), (12, .bool false), (22, .slice so ts.length ca), (23, .int .i64 (((ts.length : Nat) : Int))), (24, .bool false), (26, .slice (some ⟨g29, 0, none⟩) 0 0)] ∧ Mg w w1 (.row 30 11 (.slice so_ xs.length ca_) xs.length (cellsOf xs) :: .obj g2 (.cells #[.int .i64 0, .int .i64 0, .bool false, .slice none 0 0, .slice none 0 0, .bool false, .slice none 0 0, .slice none 0 0, .string (⟨#[]⟩), .slice none 0 0, .slice none 0 0] 30) :: [])) _ ⟨0, [], some ⟨g29, 0, none⟩, 0, rfl, ⟨Nat.zero_le _, (fun x h => by cases h), Nat.zero_le _, rfl⟩, hA.keep _ ⟨rfl, rfl, rfl, rfl, rfl, rfl, rfl, rfl, rfl, rfl, rfl, rfl, rfl, trivial⟩, hM⟩ ?_
     clear hM hA
     rintro m_ a w33 ⟨j, xs, so_, ca_, rfl, hinv35, hA, hM⟩ K34 hK34
     obtain ⟨hi0, hxs, hbx, hJ⟩ := hinv35
     have hxl := bulks_len xs
     refine wp_seq_k (fun K36 hK36 => ?_)
     refine wp_seq_k (fun K37 hK37 => ?_)
     refine wp_region_lit ?_
     refine seq_do hA rfl rfl rfl (does_move rfl) ?_
     intro a hA
     refine seq_do hA rfl rfl rfl (does_move rfl) ?_
     intro a hA
     refine seq_do (v := .int .i64 (((ts.length : Nat) : Int))) hA rfl rfl rfl (does_len Tryz.underlying22 rfl) ?_
     intro a hA
     refine seq_do (v := .int .i64 (((ts.length - 1 : Nat) : Int))) hA rfl rfl rfl (does_bin rfl rfl (ar_sub ((in_i64 (by omega) (by omega)).trans (by omega)))) ?_
     intro a hA
     rcases Bool.eq_false_or_eq_true (decide (((j : Nat) : Int) < ((ts.length - 1 : Nat) : Int))) with hb38 | hb38
     · have hb38' := of_decide_eq_true hb38
       refine seq_do (v := .bool true) hA rfl rfl rfl (does_bin rfl rfl (fun w => (bin_lss w).trans (by rw [hb38]))) ?_
       intro a hA
       refine seq_end ?_
       refine hK37 _ _ ?_
       refine wp_cond_true (hA.ev rfl) ?_
       refine wp_skip ?_
       refine hK36 _ _ ?_
       refine wp_seq_k (fun K39 hK39 => ?_)
       refine wp_block ?_
       refine wp_seq_k (fun K40 hK40 => ?_)
       obtain ⟨t1, bt1, ot1, it1, mt1, rt1_, lt1, Ht1⟩ := kidL hR hD (i := j) (by omega)
       have hbt := bulks_take it1
       have hbp := bulks_part (ts := ts) (j + 1)
       have hs1 := all_mem hall t1 mt1
       refine wp_region_lit ?_
       refine seq_do hA rfl rfl rfl (does_move rfl) ?_
       intro a hA
       refine seq_do hA rfl rfl rfl (does_move rfl) ?_
       intro a hA
       refine seq_do (v := .pointer (some ⟨bt1, ot1 + j * 11, none⟩)) hA rfl rfl rfl (does_indexD (k := j) Tryz.underlying22 (by kernel_rfl) rfl rfl rfl lt1 (by omega)) ?_
       intro a hA
       refine seq_do hA rfl rfl rfl (m_loadHS hM Ht1 LiN_isS_30 rfl rfl) ?_
       intro a hA
       rcases Bool.eq_false_or_eq_true ((asList t1.tr).isSome) with hb41 | hb41
       · refine seq_call hA rfl rfl rfl (enters_func rfl rfl (fun w => by kernel_rfl)) (ritems_some hM.bel rt1_ (by have := bulk_in mt1; omega) hs1 hb41) ?_
         rintro _ w43 ⟨so7, ca7, ys, rfl, ⟨hy1, hy2, hy3⟩, hM7⟩
         have hyb := asList_bulk hy1
         replace hM : Mg w w43 (.row 30 11 (.slice so7 ys.length ca7) ys.length (cellsOf ys) :: .row 30 11 (.slice so_ xs.length ca_) xs.length (cellsOf xs) :: .obj g2 (.cells #[.int .i64 0, .int .i64 0, .bool false, .slice none 0 0, .slice none 0 0, .bool false, .slice none 0 0, .slice none 0 0, .string (⟨#[]⟩), .slice none 0 0, .slice none 0 0] 30) :: []) := (hM.both hM7 (noBld_cons (by simp) (noBld_cons (by simp) (noBld_quiet quietL_nil))) (noBld_cons (by simp) (noBld_quiet quietL_nil)))
         refine ⟨_, rfl, ?_⟩
         intro a hA
         refine seq_do hA rfl rfl rfl (does_move rfl) ?_
         intro a hA
         refine seq_do (v := .slice so7 ys.length ca7) hA rfl rfl rfl (does_extract (vs := [.slice so7 ys.length ca7, .int .i64 0]) rfl rfl) ?_
         intro a hA
         refine seq_do (v := .int .i64 0) hA rfl rfl rfl (does_extract (vs := [.slice so7 ys.length ca7, .int .i64 0]) rfl rfl) ?_
         intro a hA
         refine seq_do hA rfl rfl rfl (does_assign rfl) ?_
         intro a hA
         refine seq_do hA rfl rfl rfl (does_assign rfl) ?_
         intro a hA
         refine seq_end ?_
         refine hK40 _ _ ?_
         refine wp_seq_k (fun K44 hK44 => ?_)
         refine wp_seq_k (fun K45 hK45 => ?_)
         refine wp_region_lit ?_
         refine seq_do hA rfl rfl rfl (does_move rfl) ?_
         intro a hA
         refine seq_do (v := .bool false) hA rfl rfl rfl (does_bin rfl rfl (fun w => by kernel_rfl)) ?_
         intro a hA
         refine seq_end ?_
         refine hK45 _ _ ?_
         refine wp_cond_false (hA.ev rfl) ?_
         refine wp_skip ?_
         refine hK44 _ _ ?_
         refine wp_region_lit ?_
         refine seq_do hA rfl rfl rfl (does_move rfl) ?_
         intro a hA
         refine seq_do hA rfl rfl rfl (does_move rfl) ?_
         intro a hA
         refine s_appendE (e := 30) (sz := 11) (k := 1) (q := xs.length) (m := ys.length) (xs := cellsOf xs) (news := cellsOf ys) (L' := fun v46 => (.row 30 11 (.slice so7 ys.length ca7) ys.length (cellsOf ys) :: .row 30 11 (v46) (xs.length + ys.length) (cellsOf xs ++ cellsOf ys) :: .obj g2 (.cells #[.int .i64 0, .int .i64 0, .bool false, .slice none 0 0, .slice none 0 0, .bool false, .slice none 0 0, .slice none 0 0, .string (⟨#[]⟩), .slice none 0 0, .slice none 0 0] 30) :: [])) hA rfl rfl rfl (m_appX (z := .agg #[.int .i64 0, .int .i64 0, .bool false, .slice none 0 0, .slice none 0 0, .bool false, .slice none 0 0, .slice none 0 0, .string ⟨#[]⟩, .slice none 0 0, .slice none 0 0]) (sz := 11) (by_ := 192) Tryz.underlying22 (by kernel_rfl) rfl rfl rfl hM 1 rfl rfl rfl (cellsOf_len ys) (rc_own (hM.has 0 rfl)) (cellsOf_oneC ys) (by omega)) (fun _ => rfl) ?_
         intro v46 w47 hM a hA
         replace hM : Mg w w47 (.row 30 11 (.slice so7 ys.length ca7) ys.length (cellsOf ys) :: .row 30 11 (v46) ((xs ++ ys).length) (cellsOf (xs ++ ys)) :: .obj g2 (.cells #[.int .i64 0, .int .i64 0, .bool false, .slice none 0 0, .slice none 0 0, .bool false, .slice none 0 0, .slice none 0 0, .string (⟨#[]⟩), .slice none 0 0, .slice none 0 0] 30) :: []) := by
           rw [cellsOf_append, List.length_append]; exact hM
         obtain ⟨so48, ca49, rfl⟩ := owns_any (hM.has 1 rfl)
         refine seq_do hA rfl rfl rfl (does_assign rfl) ?_
         intro a hA
         refine seq_end ?_
         refine hK39 _ _ ?_
         refine wp_region_lit ?_
         refine seq_do hA rfl rfl rfl (does_move rfl) ?_
         intro a hA
         refine seq_do (v := .int .i64 (((j + 1 : Nat) : Int))) hA rfl rfl rfl (does_bin rfl rfl (ar_add ((in_i64 (by omega) (by omega)).trans (by omega)))) ?_
         intro a hA
         refine seq_do hA rfl rfl rfl (does_assign rfl) ?_
         intro a hA
         refine seq_end ?_
         replace hM : Mg w w47 (.row 30 11 (.slice so48 ((xs ++ ys).length) ca49) ((xs ++ ys).length) (cellsOf (xs ++ ys)) :: .obj g2 (.cells #[.int .i64 0, .int .i64 0, .bool false, .slice none 0 0, .slice none 0 0, .bool false, .slice none 0 0, .slice none 0 0, .string (⟨#[]⟩), .slice none 0 0, .slice none 0 0] 30) :: []) := by
           have h9 := hM.sub (.cons _ (.cons_cons _ (.cons_cons _ (.refl _))))
           exact h9
         refine hK34 _ _ _ (by omega) ⟨j + 1, xs ++ ys, so48, ca49, rfl, ⟨by omega, (fun x hx => (List.mem_append.1 hx).elim (hxs x) (hy2 x)), by rw [List.map_append, bulks_append]; omega, by rw [take_tr it1, List.map_append]; exact joinS_snoc hJ hy1⟩, hA.keep _ ⟨rfl, rfl, rfl, rfl, rfl, rfl, rfl, rfl, rfl, rfl, rfl, rfl, rfl, trivial⟩, hM⟩
       · refine seq_call hA rfl rfl rfl (enters_func rfl rfl (fun w => by kernel_rfl)) (ritems_none hM.bel rt1_ (by have := bulk_in mt1; omega) hs1 hb41) ?_
         rintro _ w51 ⟨rfl, hb50⟩
         replace hM := hM.call hb50
         refine ⟨_, rfl, ?_⟩
         intro a hA
         refine seq_do hA rfl rfl rfl (does_move rfl) ?_
         intro a hA
         refine seq_do (v := .slice none 0 0) hA rfl rfl rfl (does_extract (vs := [.slice none 0 0, .int .i64 10]) rfl rfl) ?_
         intro a hA
         refine seq_do (v := .int .i64 10) hA rfl rfl rfl (does_extract (vs := [.slice none 0 0, .int .i64 10]) rfl rfl) ?_
         intro a hA
         refine seq_do hA rfl rfl rfl (does_assign rfl) ?_
         intro a hA
         refine seq_do hA rfl rfl rfl (does_assign rfl) ?_
         intro a hA
         refine seq_end ?_
         refine hK40 _ _ ?_
         refine wp_seq_k (fun K52 hK52 => ?_)
         refine wp_seq_k (fun K53 hK53 => ?_)
         refine wp_region_lit ?_
         refine seq_do hA rfl rfl rfl (does_move rfl) ?_
         intro a hA
         refine seq_do (v := .bool true) hA rfl rfl rfl (does_bin rfl rfl (fun w => by kernel_rfl)) ?_
         intro a hA
         refine seq_end ?_
         refine hK53 _ _ ?_
         refine wp_cond_true (hA.ev rfl) ?_
         refine wp_seq_k (fun K54 hK54 => ?_)
         refine wp_region_lit ?_
         refine seq_do (v := .agg #[.int .i64 0, .int .i64 0, .bool false, .slice none 0 0, .slice none 0 0, .bool false, .slice none 0 0, .slice none 0 0, .string (⟨#[]⟩), .slice none 0 0, .slice none 0 0]) hA rfl rfl rfl (does_build rfl (fun w => by kernel_rfl)) ?_
         intro a hA
         refine seq_do hA rfl rfl rfl (does_move rfl) ?_
         intro a hA
         refine s_store (us := [.int .i64 0, .int .i64 0, .bool false, .slice none 0 0, .slice none 0 0, .bool false, .slice none 0 0, .slice none 0 0, .string (⟨#[]⟩), .slice none 0 0, .slice none 0 0]) (L' := (.row 30 11 (.slice so_ xs.length ca_) xs.length (cellsOf xs) :: .obj g2 (.cells #[.int .i64 0, .int .i64 0, .bool false, .slice none 0 0, .slice none 0 0, .bool false, .slice none 0 0, .slice none 0 0, .string (⟨#[]⟩), .slice none 0 0, .slice none 0 0] 30) :: [])) hA hM rfl rfl (m_store rfl rfl rfl (by kernel_rfl) hM 1 rfl rfl rfl) 1 rfl rfl rfl ?_
         intro w55 hM
         refine seq_do hA rfl rfl rfl (does_assign rfl) ?_
         intro a hA
         refine seq_end ?_
         refine hK54 _ _ ?_
         refine wp_ret ?_
         refine hret _ _ ?_
         refine ends (v := .tuple #[.agg #[.int .i64 0, .int .i64 0, .bool false, .slice none 0 0, .slice none 0 0, .bool false, .slice none 0 0, .slice none 0 0, .string (⟨#[]⟩), .slice none 0 0, .slice none 0 0], .int .i64 10]) hA rfl (.cons (res_cellS hM LiN_isS_30 rfl 1 rfl (cs := [.int .i64 0, .int .i64 0, .bool false, .slice none 0 0, .slice none 0 0, .bool false, .slice none 0 0, .slice none 0 0, .string (⟨#[]⟩), .slice none 0 0, .slice none 0 0]) rfl rfl) (.cons (res_tmp rfl) .nil)) rfl ?_
         exact ⟨zeroD, 10, rfl, ⟨zeroD_rd _, by rw [appS_none hall (fun e => by rw [e] at hb23'; exact hb23' rfl) (join_cut hJ it1 (none_of hb41) (by omega)), zeroD_tr]⟩, hM.bel⟩
     · have hb38' := of_decide_eq_false hb38
       refine seq_do (v := .bool false) hA rfl rfl rfl (does_bin rfl rfl (fun w => (bin_lss w).trans (by rw [hb38]))) ?_
       intro a hA
       refine seq_end ?_
       refine hK37 _ _ ?_
       refine wp_cond_false (hA.ev rfl) ?_
       refine wp_exit ?_
       refine hK31 _ _ ?_
       refine wp_seq_k (fun K56 hK56 => ?_)
       obtain ⟨t9, bt9, ot9, it9, mt9, rt9_, lt9, Ht9⟩ := kidL hR hD (i := (ts.length - 1)) (by omega)
       obtain rfl : j = ts.length - 1 := by omega
       have hjb := join_bulk hJ
       have hgb : Tr.bulks ((ts.take (ts.length - 1)).map Dt.tr) + t9.tr.bulk = Tr.bulks (ts.map Dt.tr) := by
         have h7 := bulks_take it9
         rw [show ts.length - 1 + 1 = ts.length by omega, List.take_length] at h7
         omega
       refine wp_region_lit ?_
       refine seq_do hA rfl rfl rfl (does_move rfl) ?_
       intro a hA
       refine seq_do hA rfl rfl rfl (does_move rfl) ?_
       intro a hA
       refine seq_do hA rfl rfl rfl (does_move rfl) ?_
       intro a hA
       refine seq_do (v := .int .i64 (((ts.length : Nat) : Int))) hA rfl rfl rfl (does_len Tryz.underlying22 rfl) ?_
       intro a hA
       refine seq_do (v := .int .i64 (((ts.length - 1 : Nat) : Int))) hA rfl rfl rfl (does_bin rfl rfl (ar_sub ((in_i64 (by omega) (by omega)).trans (by omega)))) ?_
       intro a hA
       refine seq_do (v := .pointer (some ⟨bt9, ot9 + (ts.length - 1) * 11, none⟩)) hA rfl rfl rfl (does_indexD (k := (ts.length - 1)) Tryz.underlying22 (by kernel_rfl) rfl rfl rfl lt9 (by omega)) ?_
       intro a hA
       refine seq_do hA rfl rfl rfl (m_loadHS hM Ht9 LiN_isS_30 rfl rfl) ?_
       intro a hA
       obtain ⟨hge57, hlt58⟩ := Ck.lt (hM.has 1 rfl) g2 rfl
       refine seq_call hA rfl rfl rfl (enters_func rfl rfl (fun w => by kernel_rfl)) (rlist_any (rt_own (hM.has 0 rfl)).1 (fun t ht => Dt.keep hM.bel _ (hxs t ht)) (Dt.keep hM.bel _ rt9_) (by omega) (fun b => b < w.heap.size ∨ w33.heap.size ≤ b) (fun b hb => .inr hb) (fun t ht => Dt.at_mono (fun b hb => .inl hb) _ (Dt.at_lt _ (hxs t ht))) (Dt.at_mono (fun b hb => .inl hb) _ (Dt.at_lt _ rt9_))) ?_
       rintro _ w60 ⟨t3, rfl, ⟨hrt3, hat3, htt3⟩, hb59⟩
       replace hM := hM.call hb59
       refine ⟨_, rfl, ?_⟩
       intro a hA
       refine seq_call hA rfl rfl rfl (enters_func rfl rfl (fun w => by kernel_rfl)) (rfit_any hrt3 (by rw [htt3, link_bulk, List.length_map]; omega) hat3) ?_
       rintro _ w62 ⟨t2, k2, rfl, ⟨hrt2, hat2, htt2⟩, hb61⟩
       replace hM := hM.call hb61
       refine ⟨_, rfl, ?_⟩
       intro a hA
       refine seq_do (v := .agg (t2.d.cells t2.ts.length).toArray) hA rfl rfl rfl (does_extract (vs := [.agg (t2.d.cells t2.ts.length).toArray, .int .i64 k2]) rfl rfl) ?_
       intro a hA
       refine seq_do (v := .int .i64 k2) hA rfl rfl rfl (does_extract (vs := [.agg (t2.d.cells t2.ts.length).toArray, .int .i64 k2]) rfl rfl) ?_
       intro a hA
       refine s_storeD (us := [.int .i64 t2.d.k, .int .i64 t2.d.n, .bool t2.d.y.q.b1, .slice t2.d.y.o1 t2.d.y.q.t1.length t2.d.y.c1, .slice t2.d.y.o2 t2.d.y.q.q1.length t2.d.y.c2, .bool t2.d.y.q.b2, .slice t2.d.y.o3 t2.d.y.q.t2.length t2.d.y.c3, .slice t2.d.y.o4 t2.d.y.q.q2.length t2.d.y.c4, .string t2.d.s, .slice t2.d.ro t2.d.rl.length t2.d.rc, .slice t2.d.lo t2.ts.length t2.d.lc]) (L' := (.row 30 11 (.slice so_ xs.length ca_) xs.length (cellsOf xs) :: .obj g2 (.cells (t2.d.cells t2.ts.length).toArray 30) :: [])) hA hM rfl rfl (m_store rfl rfl rfl (by kernel_rfl) hM 1 rfl rfl rfl) 1 rfl rfl rfl ?_
       intro w63 hM hK64
       replace hrt2 := Dt.kept hK64 _ hrt2 (Dt.at_mono (fun b hb => by rintro rfl; omega) _ hat2)
       refine seq_do hA rfl rfl rfl (does_assign rfl) ?_
       intro a hA
       refine seq_end ?_
       refine hK56 _ _ ?_
       refine wp_ret ?_
       refine hret _ _ ?_
       refine ends (v := .tuple #[.agg (t2.d.cells t2.ts.length).toArray, .int .i64 k2]) hA rfl (.cons (res_cellS hM LiN_isS_30 rfl 1 rfl (cs := [.int .i64 t2.d.k, .int .i64 t2.d.n, .bool t2.d.y.q.b1, .slice t2.d.y.o1 t2.d.y.q.t1.length t2.d.y.c1, .slice t2.d.y.o2 t2.d.y.q.q1.length t2.d.y.c2, .bool t2.d.y.q.b2, .slice t2.d.y.o3 t2.d.y.q.t2.length t2.d.y.c3, .slice t2.d.y.o4 t2.d.y.q.q2.length t2.d.y.c4, .string t2.d.s, .slice t2.d.ro t2.d.rl.length t2.d.rc, .slice t2.d.lo t2.ts.length t2.d.lc]) rfl rfl) (.cons (res_tmp rfl) .nil)) rfl ?_
       exact ⟨t2, k2, rfl, ⟨hrt2, by rw [appS_some hall it9 hJ, htt2, htt3]; rfl⟩, hM.bel⟩
end Go.Proofs.YtbnjomifogjdfaaGreatDoor.G
namespace Go.Proofs.YtbnjomifogjdfaaGreatDoor.G
open Go.RowKit
set_option linter.unusedVariables false
set_option linter.unusedSimpArgs false
set_option maxRecDepth 100000
theorem LiJ_is1_22 : Is1 Tryz.prog 22 := ⟨⟨_, Tryz.underlying22, rfl⟩, by kernel_rfl⟩
theorem LiJ_is1_3 : Is1 Tryz.prog 3 := ⟨⟨_, Tryz.underlying3, rfl⟩, by kernel_rfl⟩
theorem LiJ_fld_30_0 : FieldAt Tryz.prog 30 0 0 := ⟨_, _, Tryz.underlying30, rfl, rfl, by kernel_rfl⟩
theorem LiJ_fld_30_5 : FieldAt Tryz.prog 30 5 10 := ⟨_, _, Tryz.underlying30, rfl, rfl, by kernel_rfl⟩
theorem LiJ_isS_30 : IsS Tryz.prog 30 11 := ⟨⟨_, Tryz.underlying30⟩, by kernel_rfl⟩
theorem awake_any {w : World} (hT : Tabs8 w) : Calls Tryz.prog 16 #[] w fun e w' => e = .returned (.bool true) ∧ Below w.heap.size w w' := by
 have hM : Mg w w ([]) := Mg.start w
 refine walk_of (l := []) Tryz.func16 rfl Tryz.ntmps16 rfl rfl ?_
 intro Q hret hnorm hP a hA
 refine wp_seq_k (fun K1 hK1 => ?_)
 refine wp_region_lit ?_
 refine seq_do hA rfl rfl rfl (does_assign rfl) ?_
 intro a hA
 refine seq_end ?_
 refine hK1 _ _ ?_
 refine wp_seq_k (fun K2 hK2 => ?_)
 refine wp_region_lit ?_
 refine seq_do (v := .agg #[.int .i64 2, .int .i64 0, .bool false, .slice none 0 0, .slice none 0 0, .bool false, .slice none 0 0, .slice none 0 0, .string (⟨#[]⟩), .slice none 0 0, .slice none 0 0]) hA rfl rfl rfl (does_build rfl (fun w => by kernel_rfl)) ?_
 intro a hA
 refine seq_do (v := .agg #[.int .i64 10, .int .i64 0, .bool false, .slice none 0 0, .slice none 0 0, .bool false, .slice none 0 0, .slice none 0 0, .string (⟨#[]⟩), .slice none 0 0, .slice none 0 0]) hA rfl rfl rfl (does_build rfl (fun w => by kernel_rfl)) ?_
 intro a hA
 refine s_litE (e := 30) (sz := 11) (m := 2) (vs := cellsOf [bareD 2, bareD 10]) hA hM rfl rfl rfl (does_buildSlice rfl (by kernel_rfl)) rfl rfl (.inl (by decide)) ?_
 intro g3 w4 hM a hA
 refine seq_call hA rfl rfl rfl (enters_func rfl rfl (fun w => by kernel_rfl)) (of_any (ts := [bareD 2, bareD 10]) (rt_own (hM.has 0 rfl)).1 (two_bare _) (by decide) (hT.below hM.bel)) ?_
 rintro _ w6 ⟨x, rfl, ⟨hrx, -, htx⟩, hb5⟩
 have hbx := of_bulk [(bareD 2).tr, (bareD 10).tr]
 have hbx9 : Tr.bulks [(bareD 2).tr, (bareD 10).tr] = 2 := by rfl
 replace hM := hM.call hb5
 refine ⟨_, rfl, ?_⟩
 intro a hA
 have hB1 := hM.bel
 replace hT := hT.below hM.bel
 replace hM : Mg w6 w6 [] := Mg.start w6
 refine s_new (vs := [.int .i64 0, .int .i64 0, .bool false, .slice none 0 0, .slice none 0 0, .bool false, .slice none 0 0, .slice none 0 0, .string (⟨#[]⟩), .slice none 0 0, .slice none 0 0]) (t := 30) hA hM rfl rfl rfl (fun g => .pointer (some ⟨g, 0, none⟩)) (does_alloc (z := .agg #[.int .i64 0, .int .i64 0, .bool false, .slice none 0 0, .slice none 0 0, .bool false, .slice none 0 0, .slice none 0 0, .string (⟨#[]⟩), .slice none 0 0, .slice none 0 0]) (by kernel_rfl) rfl) (by decide) ?_
 intro g7 w8 hM a hA
 refine s_store (us := [.int .i64 x.d.k, .int .i64 x.d.n, .bool x.d.y.q.b1, .slice x.d.y.o1 x.d.y.q.t1.length x.d.y.c1, .slice x.d.y.o2 x.d.y.q.q1.length x.d.y.c2, .bool x.d.y.q.b2, .slice x.d.y.o3 x.d.y.q.t2.length x.d.y.c3, .slice x.d.y.o4 x.d.y.q.q2.length x.d.y.c4, .string x.d.s, .slice x.d.ro x.d.rl.length x.d.rc, .slice x.d.lo x.ts.length x.d.lc]) (L' := (.obj g7 (.cells (x.d.cells x.ts.length).toArray 30) :: [])) hA hM rfl rfl (m_store rfl rfl rfl (by kernel_rfl) hM 0 rfl rfl rfl) 0 rfl rfl rfl ?_
 intro w9 hM
 refine seq_end ?_
 refine hK2 _ _ ?_
 refine wp_seq_k (fun K10 hK10 => ?_)
 refine wp_region_lit ?_
 refine seq_do hA rfl rfl rfl (m_loadS hM LiJ_isS_30 rfl 0 rfl (cs := [.int .i64 x.d.k, .int .i64 x.d.n, .bool x.d.y.q.b1, .slice x.d.y.o1 x.d.y.q.t1.length x.d.y.c1, .slice x.d.y.o2 x.d.y.q.q1.length x.d.y.c2, .bool x.d.y.q.b2, .slice x.d.y.o3 x.d.y.q.t2.length x.d.y.c3, .slice x.d.y.o4 x.d.y.q.q2.length x.d.y.c4, .string x.d.s, .slice x.d.ro x.d.rl.length x.d.rc, .slice x.d.lo x.ts.length x.d.lc]) rfl rfl) ?_
 intro a hA
 refine seq_call hA rfl rfl rfl (enters_func rfl rfl (fun w => by kernel_rfl)) (reverse_any (t := x) (Dt.keep hM.bel _ hrx) (by have h9 : x.tr.bulk ≤ 6 := (by rw [htx]; show (ofS [(bareD 2).tr, (bareD 10).tr]).bulk ≤ 6; omega); omega) (hT.below hM.bel)) ?_
 rintro _ w12 ⟨r, kr, rfl, ⟨hrr, -, htr⟩, hb11⟩
 replace hM := hM.call hb11
 refine ⟨_, rfl, ?_⟩
 intro a hA
 have hB2 := hB1.trans (hM.bel.mono hB1.size)
 replace hT := hT.below hM.bel
 replace hrx := Dt.keep hM.bel _ hrx
 have hHg7 := hM.here 0 (cs := [.int .i64 x.d.k, .int .i64 x.d.n, .bool x.d.y.q.b1, .slice x.d.y.o1 x.d.y.q.t1.length x.d.y.c1, .slice x.d.y.o2 x.d.y.q.q1.length x.d.y.c2, .bool x.d.y.q.b2, .slice x.d.y.o3 x.d.y.q.t2.length x.d.y.c3, .slice x.d.y.o4 x.d.y.q.q2.length x.d.y.c4, .string x.d.s, .slice x.d.ro x.d.rl.length x.d.rc, .slice x.d.lo x.ts.length x.d.lc]) rfl
 replace hM : Mg w12 w12 [] := Mg.start w12
 refine seq_do hA rfl rfl rfl (does_move rfl) ?_
 intro a hA
 refine seq_do (v := .agg (r.d.cells r.ts.length).toArray) hA rfl rfl rfl (does_extract (vs := [.agg (r.d.cells r.ts.length).toArray, .int .i64 kr]) rfl rfl) ?_
 intro a hA
 refine seq_do (v := .int .i64 kr) hA rfl rfl rfl (does_extract (vs := [.agg (r.d.cells r.ts.length).toArray, .int .i64 kr]) rfl rfl) ?_
 intro a hA
 refine s_new (vs := [.int .i64 0, .int .i64 0, .bool false, .slice none 0 0, .slice none 0 0, .bool false, .slice none 0 0, .slice none 0 0, .string (⟨#[]⟩), .slice none 0 0, .slice none 0 0]) (t := 30) hA hM rfl rfl rfl (fun g => .pointer (some ⟨g, 0, none⟩)) (does_alloc (z := .agg #[.int .i64 0, .int .i64 0, .bool false, .slice none 0 0, .slice none 0 0, .bool false, .slice none 0 0, .slice none 0 0, .string (⟨#[]⟩), .slice none 0 0, .slice none 0 0]) (by kernel_rfl) rfl) (by decide) ?_
 intro g13 w14 hM a hA
 refine s_store (us := [.int .i64 r.d.k, .int .i64 r.d.n, .bool r.d.y.q.b1, .slice r.d.y.o1 r.d.y.q.t1.length r.d.y.c1, .slice r.d.y.o2 r.d.y.q.q1.length r.d.y.c2, .bool r.d.y.q.b2, .slice r.d.y.o3 r.d.y.q.t2.length r.d.y.c3, .slice r.d.y.o4 r.d.y.q.q2.length r.d.y.c4, .string r.d.s, .slice r.d.ro r.d.rl.length r.d.rc, .slice r.d.lo r.ts.length r.d.lc]) (L' := (.obj g13 (.cells (r.d.cells r.ts.length).toArray 30) :: [])) hA hM rfl rfl (m_store rfl rfl rfl (by kernel_rfl) hM 0 rfl rfl rfl) 0 rfl rfl rfl ?_
 intro w15 hM
 refine seq_do hA rfl rfl rfl (does_assign rfl) ?_
 intro a hA
 refine seq_end ?_
 refine hK10 _ _ ?_
 refine wp_seq_k (fun K16 hK16 => ?_)
 have e9 : (r.tr, kr) = (linkT [(bareD 10).tr, (bareD 2).tr] nilT, 0) := htr.trans (by rw [htx]; exact awake_of)
 obtain ⟨f1, f2, f3⟩ := pair_form (congrArg Prod.fst e9)
 have f4 : kr = 0 := congrArg Prod.snd e9
 obtain ⟨r0, br0, or0, ir0, mr0, rr0_, lr0, Hr0⟩ := kidT hrr (i := 0) (by omega)
 have f5 : r0.d.k = 10 := by rw [← tr_k, f3 _ ir0]; rfl
 refine wp_region_lit ?_
 refine seq_do hA rfl rfl rfl (does_move rfl) ?_
 intro a hA
 refine seq_do (v := .bool true) hA rfl rfl rfl (does_bin rfl rfl (fun w => (bin_eql w).trans (by rw [show ((kr == 0)) = true from (beq_iff_eq.2 f4)]))) ?_
 intro a hA
 refine seq_do hA rfl rfl rfl (does_move rfl) ?_
 intro a hA
 refine seq_do (v := .pointer (some ⟨g13, 0, none⟩)) hA rfl rfl rfl (does_field LiJ_fld_30_0 rfl rfl) ?_
 intro a hA
 refine seq_do hA rfl rfl rfl (m_load1 hM LiJ_is1_3 rfl 0 rfl rfl) ?_
 intro a hA
 refine seq_do (v := .bool true) hA rfl rfl rfl (does_bin rfl rfl (fun w => (bin_eql w).trans (by rw [show ((r.d.k == 8)) = true from (beq_iff_eq.2 f1)]))) ?_
 intro a hA
 refine seq_do (v := .bool true) hA rfl rfl rfl (does_pick rfl rfl rfl rfl) ?_
 intro a hA
 refine seq_do hA rfl rfl rfl (does_move rfl) ?_
 intro a hA
 refine seq_do (v := .pointer (some ⟨g13, 10, none⟩)) hA rfl rfl rfl (does_field LiJ_fld_30_5 rfl rfl) ?_
 intro a hA
 refine seq_do hA rfl rfl rfl (m_load1 hM LiJ_is1_22 rfl 0 rfl rfl) ?_
 intro a hA
 refine seq_do (v := .int .i64 (((r.ts.length : Nat) : Int))) hA rfl rfl rfl (does_len Tryz.underlying22 rfl) ?_
 intro a hA
 refine seq_do (v := .bool true) hA rfl rfl rfl (does_bin rfl rfl (fun w => (bin_eql w).trans (by rw [show ((((r.ts.length : Nat) : Int) == 2)) = true from (beq_iff_eq.2 (by omega))]))) ?_
 intro a hA
 refine seq_do (v := .bool true) hA rfl rfl rfl (does_pick rfl rfl rfl rfl) ?_
 intro a hA
 refine seq_do hA rfl rfl rfl (does_move rfl) ?_
 intro a hA
 refine seq_do (v := .pointer (some ⟨g13, 10, none⟩)) hA rfl rfl rfl (does_field LiJ_fld_30_5 rfl rfl) ?_
 intro a hA
 refine seq_do hA rfl rfl rfl (m_load1 hM LiJ_is1_22 rfl 0 rfl rfl) ?_
 intro a hA
 refine seq_do (v := .pointer (some ⟨br0, or0 + 0 * 11, none⟩)) hA rfl rfl rfl (does_indexD (k := 0) Tryz.underlying22 (by kernel_rfl) rfl rfl rfl lr0 (by omega)) ?_
 intro a hA
 refine seq_do (v := .pointer (some ⟨br0, or0 + 0 * 11, none⟩)) hA rfl rfl rfl (does_field LiJ_fld_30_0 rfl rfl) ?_
 intro a hA
 refine seq_do hA rfl rfl rfl (m_loadH (j := 0) hM Hr0 LiJ_is1_3 rfl rfl rfl) ?_
 intro a hA
 refine seq_do (v := .bool true) hA rfl rfl rfl (does_bin rfl rfl (fun w => (bin_eql w).trans (by rw [show ((r0.d.k == 10)) = true from (beq_iff_eq.2 f5)]))) ?_
 intro a hA
 refine seq_do (v := .bool true) hA rfl rfl rfl (does_pick rfl rfl rfl rfl) ?_
 intro a hA
 refine seq_do hA rfl rfl rfl (does_assign rfl) ?_
 intro a hA
 refine seq_end ?_
 refine hK16 _ _ ?_
 refine wp_ret ?_
 refine hret _ _ ?_
 refine ends (v := .bool true) hA rfl (.cons (res_tmp rfl) .nil) rfl ?_
 exact ⟨rfl, hB2.trans (hM.bel.mono hB2.size)⟩
end Go.Proofs.YtbnjomifogjdfaaGreatDoor.G
namespace Go.Proofs.YtbnjomifogjdfaaGreatDoor.G
open Go.RowKit
set_option linter.unusedVariables false
set_option linter.unusedSimpArgs false
set_option maxRecDepth 100000
theorem LiO_isS_30 : IsS Tryz.prog 30 11 := ⟨⟨_, Tryz.underlying30⟩, by kernel_rfl⟩
theorem sameAll_any {w : World} {sa sb : Option Addr} {ca cb : Nat} {us vs : List Dt} (hRa : Rt w sa us) (hDa : ∀ t ∈ us, t.rd w) (hRb : Rt w sb vs) (hDb : ∀ t ∈ vs, t.rd w) (he : us.map Dt.tr = vs.map Dt.tr) (hl : us.length ≤ 1000000000) : Calls Tryz.prog 20 #[.slice sa us.length ca, .slice sb vs.length cb] w fun e w' => e = .returned (.bool true) ∧ Below w.heap.size w w' := by
 have hel : us.length = vs.length := by have := congrArg List.length he; simpa using this
 have hM : Mg w w ([]) := Mg.start w
 refine walk_of (l := [(0, .slice sa us.length ca), (1, .slice sb vs.length cb)]) Tryz.func20 rfl Tryz.ntmps20 rfl rfl ?_
 intro Q hret hnorm hP a hA
 refine wp_seq_k (fun K1 hK1 => ?_)
 refine wp_region_lit ?_
 refine seq_do hA rfl rfl rfl (does_assign rfl) ?_
 intro a hA
 refine seq_end ?_
 refine hK1 _ _ ?_
 refine wp_seq_k (fun K2 hK2 => ?_)
 refine wp_seq_k (fun K3 hK3 => ?_)
 refine wp_region_lit ?_
 refine seq_do hA rfl rfl rfl (does_move rfl) ?_
 intro a hA
 refine seq_do (v := .int .i64 (((us.length : Nat) : Int))) hA rfl rfl rfl (does_len Tryz.underlying22 rfl) ?_
 intro a hA
 refine seq_do hA rfl rfl rfl (does_move rfl) ?_
 intro a hA
 refine seq_do (v := .int .i64 (((vs.length : Nat) : Int))) hA rfl rfl rfl (does_len Tryz.underlying22 rfl) ?_
 intro a hA
 refine seq_do (v := .bool false) hA rfl rfl rfl (does_bin rfl rfl (fun w => (bin_neq w).trans (by rw [show ((((us.length : Nat) : Int) != ((vs.length : Nat) : Int))) = false from (bne_eq_false_iff_eq.2 (by omega))]))) ?_
 intro a hA
 refine seq_end ?_
 refine hK3 _ _ ?_
 refine wp_cond_false (hA.ev rfl) ?_
 refine wp_skip ?_
 refine hK2 _ _ ?_
 refine wp_seq_k (fun K4 hK4 => ?_)
 refine wp_seq_k (fun K5 hK5 => ?_)
 refine wp_region_lit ?_
 refine seq_do hA rfl rfl rfl (does_assign rfl) ?_
 intro a hA
 refine seq_end ?_
 refine hK5 _ _ ?_
 refine wp_block ?_
 refine wp_loop_n (fun m_ a w1 => ∃ (i : Nat), m_ = 1 + (us.length - i) ∧ (i ≤ us.length) ∧ Sl a 27 [(0, .slice sa us.length ca), (1, .slice sb vs.length cb), (5, .int .i64 (((i : Nat) : Int))), (6, .slice sa us.length ca), (7, .int .i64 (((us.length : Nat) : Int))), (8, .slice sb vs.length cb), (9, .int .i64 (((vs.length : Nat) : Int))), (10, .bool false)] ∧ Mg w w1 ([])) _ ⟨0, rfl, Nat.zero_le _, hA.keep _ ⟨rfl, rfl, rfl, rfl, rfl, rfl, rfl, rfl, trivial⟩, hM⟩ ?_
 clear hM hA
 rintro m_ a w6 ⟨i, rfl, hinv8, hA, hM⟩ K7 hK7
 have hi0 := hinv8
 refine wp_seq_k (fun K9 hK9 => ?_)
 refine wp_seq_k (fun K10 hK10 => ?_)
 refine wp_region_lit ?_
 refine seq_do hA rfl rfl rfl (does_move rfl) ?_
 intro a hA
 refine seq_do hA rfl rfl rfl (does_move rfl) ?_
 intro a hA
 refine seq_do (v := .int .i64 (((us.length : Nat) : Int))) hA rfl rfl rfl (does_len Tryz.underlying22 rfl) ?_
 intro a hA
 rcases Bool.eq_false_or_eq_true (decide (((i : Nat) : Int) < ((us.length : Nat) : Int))) with hb11 | hb11
 · have hb11' := of_decide_eq_true hb11
   refine seq_do (v := .bool true) hA rfl rfl rfl (does_bin rfl rfl (fun w => (bin_lss w).trans (by rw [hb11]))) ?_
   intro a hA
   refine seq_end ?_
   refine hK10 _ _ ?_
   refine wp_cond_true (hA.ev rfl) ?_
   refine wp_skip ?_
   refine hK9 _ _ ?_
   refine wp_seq_k (fun K12 hK12 => ?_)
   refine wp_block ?_
   refine wp_seq_k (fun K13 hK13 => ?_)
   obtain ⟨t1, bt1, ot1, it1, mt1, rt1_, lt1, Ht1⟩ := kidL hRa hDa (i := i) (by omega)
   obtain ⟨u1, bu1, ou1, iu1, mu1, ru1_, lu1, Hu1⟩ := kidL hRb hDb (i := i) (by omega)
   refine wp_draw (S := fun w1 => Mg w w1 ([])) (by kernel_rfl) ?_
   replace hM := hM.drew
   refine any_tk hA 0 rfl rfl rfl rfl hP (hM.sub (List.nil_sublist _)) (fun w1 hM => does_move rfl) ?_
   intro a hA
   refine any_tk hA 1 rfl rfl rfl rfl hP (hM.sub (List.nil_sublist _)) (fun w1 hM => does_move rfl) ?_
   intro a hA
   refine any_tk (v := .pointer (some ⟨bt1, ot1 + i * 11, none⟩)) hA 2 rfl rfl rfl rfl hP (hM.sub (List.nil_sublist _)) (fun w1 hM => does_indexD (k := i) Tryz.underlying22 (by kernel_rfl) rfl rfl rfl lt1 (by omega)) ?_
   intro a hA
   refine any_tk hA 3 rfl rfl rfl rfl hP (hM.sub (List.nil_sublist _)) (fun w1 hM => m_loadHS hM Ht1 LiO_isS_30 rfl rfl) ?_
   intro a hA
   refine any_tk hA 4 rfl rfl rfl rfl hP (hM.sub (List.nil_sublist _)) (fun w1 hM => does_move rfl) ?_
   intro a hA
   refine any_tk hA 5 rfl rfl rfl rfl hP (hM.sub (List.nil_sublist _)) (fun w1 hM => does_move rfl) ?_
   intro a hA
   refine any_tk (v := .pointer (some ⟨bu1, ou1 + i * 11, none⟩)) hA 6 rfl rfl rfl rfl hP (hM.sub (List.nil_sublist _)) (fun w1 hM => does_indexD (k := i) Tryz.underlying22 (by kernel_rfl) rfl rfl rfl lu1 (by omega)) ?_
   intro a hA
   refine any_tk hA 7 rfl rfl rfl rfl hP (hM.sub (List.nil_sublist _)) (fun w1 hM => m_loadHS hM Hu1 LiO_isS_30 rfl rfl) ?_
   intro a hA
   refine any_one (by kernel_rfl) (op_call hA 8 rfl rfl rfl rfl (enters_func rfl rfl (fun w => by kernel_rfl)) ((((sameT_eq t1.tr u1.tr).2 (tr_at he it1 iu1)) ▸ rsames_all (t1.tr.bulk + 1) (t := t1) (u := u1) (Nat.lt_succ_self _) (Dt.keep hM.bel _ rt1_) (Dt.keep hM.bel _ ru1_))) ?_)
   rintro _ w15 ⟨rfl, hb14⟩
   replace hM := hM.call hb14
   refine ⟨_, rfl, (hM.sub (List.nil_sublist _)), ?_⟩
   intro a hA
   refine any_tk (v := .bool false) hA 9 rfl rfl rfl rfl hP (hM.sub (List.nil_sublist _)) (fun w1 hM => does_un rfl un_not) ?_
   intro a hA
   refine any_end (by kernel_rfl) ?_
   refine hK13 _ _ ?_
   refine wp_cond_false (hA.ev rfl) ?_
   refine wp_skip ?_
   refine hK12 _ _ ?_
   refine wp_region_lit ?_
   refine seq_do hA rfl rfl rfl (does_move rfl) ?_
   intro a hA
   refine seq_do (v := .int .i64 (((i + 1 : Nat) : Int))) hA rfl rfl rfl (does_bin rfl rfl (fun w => (bin_add (i64In (by omega) (by omega)) w).trans (by rw [show (((i : Nat) : Int) + 1 : Int) = ((i + 1 : Nat) : Int) from by omega]))) ?_
   intro a hA
   refine seq_do hA rfl rfl rfl (does_assign rfl) ?_
   intro a hA
   refine seq_end ?_
   refine hK7 _ _ _ (by omega) ⟨i + 1, rfl, by omega, hA.keep _ ⟨rfl, rfl, rfl, rfl, rfl, rfl, rfl, rfl, trivial⟩, hM⟩
 · have hb11' := of_decide_eq_false hb11
   refine seq_do (v := .bool false) hA rfl rfl rfl (does_bin rfl rfl (fun w => (bin_lss w).trans (by rw [hb11]))) ?_
   intro a hA
   refine seq_end ?_
   refine hK10 _ _ ?_
   refine wp_cond_false (hA.ev rfl) ?_
   refine wp_exit ?_
   refine hK4 _ _ ?_
   refine wp_seq_k (fun K16 hK16 => ?_)
   refine wp_region_lit ?_
   refine seq_do hA rfl rfl rfl (does_assign rfl) ?_
   intro a hA
   refine seq_end ?_
   refine hK16 _ _ ?_
   refine wp_ret ?_
   refine hret _ _ ?_
   refine ends (v := .bool true) hA rfl (.cons (res_tmp rfl) .nil) rfl ?_
   exact ⟨rfl, hM.bel⟩
theorem items_any {w : World} {t : Dt} (ht : t.rd w) (hb : t.tr.bulk ≤ 300000000) (hT : Tabs8 w) : Calls Tryz.prog 8 #[.agg (t.d.cells t.ts.length).toArray] w fun e w' => ∃ so' ca' ys k, e = .returned (.tuple #[.slice so' (ys : List Dt).length ca', .int .i64 k]) ∧ ((ys.map Dt.tr, k) = itemS t.tr ∧ Rt w' so' ys ∧ (∀ x ∈ ys, x.rd w')) ∧ Below w.heap.size w w' := by
 have hM : Mg w w ([]) := Mg.start w
 refine walk_of (l := [(0, .agg (t.d.cells t.ts.length).toArray)]) Tryz.func8 rfl Tryz.ntmps8 rfl rfl ?_
 intro Q hret hnorm hP a hA
 refine wp_seq_k (fun K1 hK1 => ?_)
 refine wp_region_lit ?_
 refine s_new (vs := [.int .i64 t.d.k, .int .i64 t.d.n, .bool t.d.y.q.b1, .slice t.d.y.o1 t.d.y.q.t1.length t.d.y.c1, .slice t.d.y.o2 t.d.y.q.q1.length t.d.y.c2, .bool t.d.y.q.b2, .slice t.d.y.o3 t.d.y.q.t2.length t.d.y.c3, .slice t.d.y.o4 t.d.y.q.q2.length t.d.y.c4, .string t.d.s, .slice t.d.ro t.d.rl.length t.d.rc, .slice t.d.lo t.ts.length t.d.lc]) (t := 30) hA hM rfl rfl rfl (fun g => .pointer (some ⟨g, 0, none⟩)) (does_box rfl rfl) (by decide) ?_
 intro g2 w3 hM a hA
 refine seq_do hA rfl rfl rfl (does_assign rfl) ?_
 intro a hA
 refine seq_do hA rfl rfl rfl (does_assign rfl) ?_
 intro a hA
 refine seq_end ?_
 refine hK1 _ _ ?_
 refine wp_seq_k (fun K4 hK4 => ?_)
 refine wp_region_lit ?_
 refine seq_do hA rfl rfl rfl (m_loadS hM LiO_isS_30 rfl 0 rfl (cs := [.int .i64 t.d.k, .int .i64 t.d.n, .bool t.d.y.q.b1, .slice t.d.y.o1 t.d.y.q.t1.length t.d.y.c1, .slice t.d.y.o2 t.d.y.q.q1.length t.d.y.c2, .bool t.d.y.q.b2, .slice t.d.y.o3 t.d.y.q.t2.length t.d.y.c3, .slice t.d.y.o4 t.d.y.q.q2.length t.d.y.c4, .string t.d.s, .slice t.d.ro t.d.rl.length t.d.rc, .slice t.d.lo t.ts.length t.d.lc]) rfl rfl) ?_
 intro a hA
 rcases Bool.eq_false_or_eq_true (soundT shapeT t.tr) with hb5 | hb5
 · rcases Bool.eq_false_or_eq_true ((asList t.tr).isSome) with hb7 | hb7
   · refine seq_call hA rfl rfl rfl (enters_func rfl rfl (fun w => by kernel_rfl)) (items_some hM.bel ht (by omega) (hT.below hM.bel) hb5 hb7) ?_
     rintro _ w9 ⟨so7, ca7, ys, rfl, ⟨hy1, hy2, hy3⟩, hM7⟩
     have hyb := asList_bulk hy1
     replace hM : Mg w w9 (.row 30 11 (.slice so7 ys.length ca7) ys.length (cellsOf ys) :: .obj g2 (.cells (t.d.cells t.ts.length).toArray 30) :: []) := (hM.both hM7 (noBld_cons (by simp) (noBld_quiet quietL_nil)) (noBld_cons (by simp) (noBld_quiet quietL_nil)))
     refine ⟨_, rfl, ?_⟩
     intro a hA
     refine seq_do hA rfl rfl rfl (does_move rfl) ?_
     intro a hA
     refine seq_do (v := .slice so7 ys.length ca7) hA rfl rfl rfl (does_extract (vs := [.slice so7 ys.length ca7, .int .i64 0]) rfl rfl) ?_
     intro a hA
     refine seq_do (v := .int .i64 0) hA rfl rfl rfl (does_extract (vs := [.slice so7 ys.length ca7, .int .i64 0]) rfl rfl) ?_
     intro a hA
     refine seq_do hA rfl rfl rfl (does_assign rfl) ?_
     intro a hA
     refine seq_do hA rfl rfl rfl (does_assign rfl) ?_
     intro a hA
     refine seq_end ?_
     refine hK4 _ _ ?_
     refine wp_seq_k (fun K10 hK10 => ?_)
     refine wp_seq_k (fun K11 hK11 => ?_)
     refine wp_region_lit ?_
     refine seq_do hA rfl rfl rfl (does_move rfl) ?_
     intro a hA
     refine seq_do (v := .bool false) hA rfl rfl rfl (does_bin rfl rfl (fun w => by kernel_rfl)) ?_
     intro a hA
     refine seq_end ?_
     refine hK11 _ _ ?_
     refine wp_cond_false (hA.ev rfl) ?_
     refine wp_skip ?_
     refine hK10 _ _ ?_
     refine wp_seq_k (fun K12 hK12 => ?_)
     refine wp_region_lit ?_
     refine seq_do hA rfl rfl rfl (does_move rfl) ?_
     intro a hA
     refine seq_call hA rfl rfl rfl (enters_func rfl rfl (fun w => by kernel_rfl)) (callA_any (fun t _ => copies_all t) (rt_own (hM.has 0 rfl)).1 (fun t ht => Dt.keep hM.bel _ (hy2 t ht)) (by omega)) ?_
     rintro _ w13 ⟨v8, us, rfl, ⟨hu1, hu2⟩, hM8⟩
     obtain ⟨so8, ca8, rfl⟩ := owns_any (hM8.has 0 rfl)
     have hR8 := (rt_own (hM8.has 0 rfl)).1
     replace hM := hM.call hM8.bel
     refine ⟨_, rfl, ?_⟩
     intro a hA
     refine seq_do hA rfl rfl rfl (does_assign rfl) ?_
     intro a hA
     refine seq_do hA rfl rfl rfl (does_assign rfl) ?_
     intro a hA
     refine seq_end ?_
     refine hK12 _ _ ?_
     refine wp_ret ?_
     refine hret _ _ ?_
     refine ends (v := .tuple #[.slice so8 us.length ca8, .int .i64 0]) hA rfl (.cons (res_tmp rfl) (.cons (res_tmp rfl) .nil)) rfl ?_
     exact ⟨so8, ca8, us, 0, rfl, ⟨by rw [itemS_some hb5 hy1, hu1], hR8, fun x hx => (hu2 x hx).1⟩, hM.bel⟩
   · refine seq_call hA rfl rfl rfl (enters_func rfl rfl (fun w => by kernel_rfl)) (items_none hM.bel ht (by omega) (hT.below hM.bel) hb5 hb7) ?_
     rintro _ w15 ⟨rfl, hb14⟩
     replace hM := hM.call hb14
     refine ⟨_, rfl, ?_⟩
     intro a hA
     refine seq_do hA rfl rfl rfl (does_move rfl) ?_
     intro a hA
     refine seq_do (v := .slice none 0 0) hA rfl rfl rfl (does_extract (vs := [.slice none 0 0, .int .i64 10]) rfl rfl) ?_
     intro a hA
     refine seq_do (v := .int .i64 10) hA rfl rfl rfl (does_extract (vs := [.slice none 0 0, .int .i64 10]) rfl rfl) ?_
     intro a hA
     refine seq_do hA rfl rfl rfl (does_assign rfl) ?_
     intro a hA
     refine seq_do hA rfl rfl rfl (does_assign rfl) ?_
     intro a hA
     refine seq_end ?_
     refine hK4 _ _ ?_
     refine wp_seq_k (fun K16 hK16 => ?_)
     refine wp_seq_k (fun K17 hK17 => ?_)
     refine wp_region_lit ?_
     refine seq_do hA rfl rfl rfl (does_move rfl) ?_
     intro a hA
     refine seq_do (v := .bool true) hA rfl rfl rfl (does_bin rfl rfl (fun w => by kernel_rfl)) ?_
     intro a hA
     refine seq_end ?_
     refine hK17 _ _ ?_
     refine wp_cond_true (hA.ev rfl) ?_
     refine wp_seq_k (fun K18 hK18 => ?_)
     refine wp_region_lit ?_
     refine seq_do hA rfl rfl rfl (does_move rfl) ?_
     intro a hA
     refine seq_do hA rfl rfl rfl (does_assign rfl) ?_
     intro a hA
     refine seq_do hA rfl rfl rfl (does_assign rfl) ?_
     intro a hA
     refine seq_end ?_
     refine hK18 _ _ ?_
     refine wp_ret ?_
     refine hret _ _ ?_
     refine ends (v := .tuple #[.slice none 0 0, .int .i64 10]) hA rfl (.cons (res_tmp rfl) (.cons (res_tmp rfl) .nil)) rfl ?_
     exact ⟨none, 0, [], 10, rfl, ⟨(itemS_none hb5 (none_of hb7)).symm, (fun h => absurd rfl h), (fun x h => by cases h)⟩, hM.bel⟩
 · refine seq_call hA rfl rfl rfl (enters_func rfl rfl (fun w => by kernel_rfl)) (items_bad hM.bel ht (by omega) (hT.below hM.bel) hb5) ?_
   rintro _ w20 ⟨rfl, hb19⟩
   replace hM := hM.call hb19
   refine ⟨_, rfl, ?_⟩
   intro a hA
   refine seq_do hA rfl rfl rfl (does_move rfl) ?_
   intro a hA
   refine seq_do (v := .slice none 0 0) hA rfl rfl rfl (does_extract (vs := [.slice none 0 0, .int .i64 2]) rfl rfl) ?_
   intro a hA
   refine seq_do (v := .int .i64 2) hA rfl rfl rfl (does_extract (vs := [.slice none 0 0, .int .i64 2]) rfl rfl) ?_
   intro a hA
   refine seq_do hA rfl rfl rfl (does_assign rfl) ?_
   intro a hA
   refine seq_do hA rfl rfl rfl (does_assign rfl) ?_
   intro a hA
   refine seq_end ?_
   refine hK4 _ _ ?_
   refine wp_seq_k (fun K21 hK21 => ?_)
   refine wp_seq_k (fun K22 hK22 => ?_)
   refine wp_region_lit ?_
   refine seq_do hA rfl rfl rfl (does_move rfl) ?_
   intro a hA
   refine seq_do (v := .bool true) hA rfl rfl rfl (does_bin rfl rfl (fun w => by kernel_rfl)) ?_
   intro a hA
   refine seq_end ?_
   refine hK22 _ _ ?_
   refine wp_cond_true (hA.ev rfl) ?_
   refine wp_seq_k (fun K23 hK23 => ?_)
   refine wp_region_lit ?_
   refine seq_do hA rfl rfl rfl (does_move rfl) ?_
   intro a hA
   refine seq_do hA rfl rfl rfl (does_assign rfl) ?_
   intro a hA
   refine seq_do hA rfl rfl rfl (does_assign rfl) ?_
   intro a hA
   refine seq_end ?_
   refine hK23 _ _ ?_
   refine wp_ret ?_
   refine hret _ _ ?_
   refine ends (v := .tuple #[.slice none 0 0, .int .i64 2]) hA rfl (.cons (res_tmp rfl) (.cons (res_tmp rfl) .nil)) rfl ?_
   exact ⟨none, 0, [], 2, rfl, ⟨(itemS_bad hb5).symm, (fun h => absurd rfl h), (fun x h => by cases h)⟩, hM.bel⟩
theorem ritems_any {w : World} {t : Dt} (ht : t.rd w) (hb : t.tr.bulk ≤ 1100000) : Calls Tryz.prog 9 #[.agg (t.d.cells t.ts.length).toArray] w fun e w' => ∃ so' ca' ys k, e = .returned (.tuple #[.slice so' (ys : List Dt).length ca', .int .i64 k]) ∧ ((ys.map Dt.tr, k) = itemS t.tr ∧ Rt w' so' ys ∧ (∀ x ∈ ys, x.rd w')) ∧ Below w.heap.size w w' := by
  refine (ritems_or (Below.refl _ w) ht (by omega)).mono ?_
  rintro e w' (⟨so', ca', ys, h1, h2, h3⟩ | ⟨h1, h2, h3⟩ | ⟨h1, h2, h3⟩)
  · exact ⟨so', ca', ys, 0, h1, ⟨(itemS_some h2.1 h2.2.1).symm, (rt_own (h3.has 0 rfl)).1, fun x hx => Dt.keep h3.bel _ (h2.2.2.1 x hx)⟩, h3.bel⟩
  · exact ⟨none, 0, [], 10, h1, ⟨(itemS_none h2.1 h2.2).symm, (fun h => absurd rfl h), (fun x h => by cases h)⟩, h3⟩
  · exact ⟨none, 0, [], 2, h1, ⟨(itemS_bad h2).symm, (fun h => absurd rfl h), (fun x h => by cases h)⟩, h3⟩
theorem item_len (t : Tr) : (itemS t).1.length ≤ t.bulk := by
  unfold itemS
  split
  · exact Nat.zero_le _
  · cases h : asList t with
    | none => exact Nat.zero_le _
    | some xs => have := asList_bulk h; show xs.length ≤ _; omega
set_option maxHeartbeats 1000000 in
theorem listsMade_any {w : World} {si : Option Addr} {ca : Nat} {ts : List Dt} (hR : Rt w si ts) (hca : ts.length ≤ ca) (hD : ∀ t ∈ ts, t.rd w) {d : Dt} (hrd : d.rd w) {n : Int} (hT : Tabs8 w) (hb : Tr.bulks (ts.map Dt.tr) ≤ 1048576) (hb2 : d.tr.bulk ≤ 1048576) : Calls Tryz.prog 3 #[.slice si ts.length ca, .agg (d.d.cells d.ts.length).toArray, .int .i64 n] w fun e w' => e = .returned (.bool true) ∧ Below w.heap.size w w' := by
 have hbl := bulks_len ts
 have hM : Mg w w ([]) := Mg.start w
 refine walk_of (l := [(0, .slice si ts.length ca), (1, .agg (d.d.cells d.ts.length).toArray), (2, .int .i64 n)]) Tryz.func3 rfl Tryz.ntmps3 rfl rfl ?_
 intro Q hret hnorm hP a hA
 refine wp_seq_k (fun K1 hK1 => ?_)
 refine wp_region_lit ?_
 refine s_new (vs := [.int .i64 d.d.k, .int .i64 d.d.n, .bool d.d.y.q.b1, .slice d.d.y.o1 d.d.y.q.t1.length d.d.y.c1, .slice d.d.y.o2 d.d.y.q.q1.length d.d.y.c2, .bool d.d.y.q.b2, .slice d.d.y.o3 d.d.y.q.t2.length d.d.y.c3, .slice d.d.y.o4 d.d.y.q.q2.length d.d.y.c4, .string d.d.s, .slice d.d.ro d.d.rl.length d.d.rc, .slice d.d.lo d.ts.length d.d.lc]) (t := 30) hA hM rfl rfl rfl (fun g => .pointer (some ⟨g, 0, none⟩)) (does_box rfl rfl) (by decide) ?_
 intro g2 w3 hM a hA
 refine seq_do hA rfl rfl rfl (does_assign rfl) ?_
 intro a hA
 refine seq_end ?_
 refine hK1 _ _ ?_
 refine wp_seq_k (fun K4 hK4 => ?_)
 refine wp_region_lit ?_
 refine seq_do hA rfl rfl rfl (m_loadS hM LiO_isS_30 rfl 0 rfl (cs := [.int .i64 d.d.k, .int .i64 d.d.n, .bool d.d.y.q.b1, .slice d.d.y.o1 d.d.y.q.t1.length d.d.y.c1, .slice d.d.y.o2 d.d.y.q.q1.length d.d.y.c2, .bool d.d.y.q.b2, .slice d.d.y.o3 d.d.y.q.t2.length d.d.y.c3, .slice d.d.y.o4 d.d.y.q.q2.length d.d.y.c4, .string d.d.s, .slice d.d.ro d.d.rl.length d.d.rc, .slice d.d.lo d.ts.length d.d.lc]) rfl rfl) ?_
 intro a hA
 refine seq_call hA rfl rfl rfl (enters_func rfl rfl (fun w => by kernel_rfl)) (items_any (Dt.keep hM.bel _ hrd) (by omega) (hT.below hM.bel)) ?_
 rintro _ w6 ⟨sl, cl, ll, kl, rfl, ⟨htl, hRl, hDl⟩, hb5⟩
 replace hM := hM.call hb5
 refine ⟨_, rfl, ?_⟩
 intro a hA
 have hB1 := hM.bel
 replace hT := hT.below hM.bel
 replace hR := hR.below hM.bel
 replace hD := fun t ht => Dt.keep hM.bel _ (hD t ht)
 replace hrd := Dt.keep hM.bel _ hrd
 have hHg2 := hM.here 0 (cs := [.int .i64 d.d.k, .int .i64 d.d.n, .bool d.d.y.q.b1, .slice d.d.y.o1 d.d.y.q.t1.length d.d.y.c1, .slice d.d.y.o2 d.d.y.q.q1.length d.d.y.c2, .bool d.d.y.q.b2, .slice d.d.y.o3 d.d.y.q.t2.length d.d.y.c3, .slice d.d.y.o4 d.d.y.q.q2.length d.d.y.c4, .string d.d.s, .slice d.d.ro d.d.rl.length d.d.rc, .slice d.d.lo d.ts.length d.d.lc]) rfl
 replace hM : Mg w6 w6 [] := Mg.start w6
 refine seq_do hA rfl rfl rfl (does_move rfl) ?_
 intro a hA
 refine seq_do (v := .slice sl ll.length cl) hA rfl rfl rfl (does_extract (vs := [.slice sl ll.length cl, .int .i64 kl]) rfl rfl) ?_
 intro a hA
 refine seq_do (v := .int .i64 kl) hA rfl rfl rfl (does_extract (vs := [.slice sl ll.length cl, .int .i64 kl]) rfl rfl) ?_
 intro a hA
 refine seq_do hA rfl rfl rfl (does_assign rfl) ?_
 intro a hA
 refine seq_do hA rfl rfl rfl (does_assign rfl) ?_
 intro a hA
 refine seq_end ?_
 refine hK4 _ _ ?_
 refine wp_seq_k (fun K7 hK7 => ?_)
 refine wp_region_lit ?_
 refine seq_do hA rfl rfl rfl (m_loadHS hM hHg2 LiO_isS_30 rfl rfl) ?_
 intro a hA
 refine seq_call hA rfl rfl rfl (enters_func rfl rfl (fun w => by kernel_rfl)) (ritems_any (Dt.keep hM.bel _ hrd) (by omega)) ?_
 rintro _ w9 ⟨sm, cm, lm, km, rfl, ⟨htm, hRm, hDm⟩, hb8⟩
 replace hM := hM.call hb8
 refine ⟨_, rfl, ?_⟩
 intro a hA
 have hB2 := hB1.trans (hM.bel.mono hB1.size)
 replace hT := hT.below hM.bel
 replace hHg2 := hHg2.below hM.bel
 replace hR := hR.below hM.bel
 replace hD := fun t ht => Dt.keep hM.bel _ (hD t ht)
 replace hRl := hRl.below hM.bel
 replace hDl := fun t ht => Dt.keep hM.bel _ (hDl t ht)
 replace hrd := Dt.keep hM.bel _ hrd
 replace hM : Mg w9 w9 [] := Mg.start w9
 refine seq_do hA rfl rfl rfl (does_move rfl) ?_
 intro a hA
 refine seq_do (v := .slice sm lm.length cm) hA rfl rfl rfl (does_extract (vs := [.slice sm lm.length cm, .int .i64 km]) rfl rfl) ?_
 intro a hA
 refine seq_do (v := .int .i64 km) hA rfl rfl rfl (does_extract (vs := [.slice sm lm.length cm, .int .i64 km]) rfl rfl) ?_
 intro a hA
 refine seq_do hA rfl rfl rfl (does_assign rfl) ?_
 intro a hA
 refine seq_do hA rfl rfl rfl (does_assign rfl) ?_
 intro a hA
 refine seq_end ?_
 refine hK7 _ _ ?_
 refine wp_seq_k (fun K10 hK10 => ?_)
 refine wp_region_lit ?_
 refine seq_do hA rfl rfl rfl (does_move rfl) ?_
 intro a hA
 refine seq_call hA rfl rfl rfl (enters_func rfl rfl (fun w => by kernel_rfl)) (append_any (hR.below hM.bel) (fun t ht => Dt.keep hM.bel _ (hD t ht)) hca (by omega) (hT.below hM.bel)) ?_
 rintro _ w12 ⟨aa, kaa, rfl, ⟨hraa, -, htaa⟩, hb11⟩
 replace hM := hM.call hb11
 refine ⟨_, rfl, ?_⟩
 intro a hA
 have hB3 := hB2.trans (hM.bel.mono hB2.size)
 replace hT := hT.below hM.bel
 replace hHg2 := hHg2.below hM.bel
 replace hR := hR.below hM.bel
 replace hD := fun t ht => Dt.keep hM.bel _ (hD t ht)
 replace hRl := hRl.below hM.bel
 replace hDl := fun t ht => Dt.keep hM.bel _ (hDl t ht)
 replace hRm := hRm.below hM.bel
 replace hDm := fun t ht => Dt.keep hM.bel _ (hDm t ht)
 replace hrd := Dt.keep hM.bel _ hrd
 replace hM : Mg w12 w12 [] := Mg.start w12
 refine seq_do hA rfl rfl rfl (does_move rfl) ?_
 intro a hA
 refine seq_do (v := .agg (aa.d.cells aa.ts.length).toArray) hA rfl rfl rfl (does_extract (vs := [.agg (aa.d.cells aa.ts.length).toArray, .int .i64 kaa]) rfl rfl) ?_
 intro a hA
 refine seq_do (v := .int .i64 kaa) hA rfl rfl rfl (does_extract (vs := [.agg (aa.d.cells aa.ts.length).toArray, .int .i64 kaa]) rfl rfl) ?_
 intro a hA
 refine s_new (vs := [.int .i64 0, .int .i64 0, .bool false, .slice none 0 0, .slice none 0 0, .bool false, .slice none 0 0, .slice none 0 0, .string (⟨#[]⟩), .slice none 0 0, .slice none 0 0]) (t := 30) hA hM rfl rfl rfl (fun g => .pointer (some ⟨g, 0, none⟩)) (does_alloc (z := .agg #[.int .i64 0, .int .i64 0, .bool false, .slice none 0 0, .slice none 0 0, .bool false, .slice none 0 0, .slice none 0 0, .string (⟨#[]⟩), .slice none 0 0, .slice none 0 0]) (by kernel_rfl) rfl) (by decide) ?_
 intro g13 w14 hM a hA
 refine s_store (us := [.int .i64 aa.d.k, .int .i64 aa.d.n, .bool aa.d.y.q.b1, .slice aa.d.y.o1 aa.d.y.q.t1.length aa.d.y.c1, .slice aa.d.y.o2 aa.d.y.q.q1.length aa.d.y.c2, .bool aa.d.y.q.b2, .slice aa.d.y.o3 aa.d.y.q.t2.length aa.d.y.c3, .slice aa.d.y.o4 aa.d.y.q.q2.length aa.d.y.c4, .string aa.d.s, .slice aa.d.ro aa.d.rl.length aa.d.rc, .slice aa.d.lo aa.ts.length aa.d.lc]) (L' := (.obj g13 (.cells (aa.d.cells aa.ts.length).toArray 30) :: [])) hA hM rfl rfl (m_store rfl rfl rfl (by kernel_rfl) hM 0 rfl rfl rfl) 0 rfl rfl rfl ?_
 intro w15 hM
 refine seq_do hA rfl rfl rfl (does_assign rfl) ?_
 intro a hA
 refine seq_end ?_
 refine hK10 _ _ ?_
 refine wp_seq_k (fun K16 hK16 => ?_)
 refine wp_region_lit ?_
 refine seq_do hA rfl rfl rfl (does_move rfl) ?_
 intro a hA
 refine seq_call hA rfl rfl rfl (enters_func rfl rfl (fun w => by kernel_rfl)) (rappend_any (hR.below hM.bel) (fun t ht => Dt.keep hM.bel _ (hD t ht)) (by omega)) ?_
 rintro _ w18 ⟨bb, kbb, rfl, ⟨hrbb, htbb⟩, hb17⟩
 replace hM := hM.call hb17
 refine ⟨_, rfl, ?_⟩
 intro a hA
 have hB4 := hB3.trans (hM.bel.mono hB3.size)
 replace hT := hT.below hM.bel
 replace hHg2 := hHg2.below hM.bel
 replace hR := hR.below hM.bel
 replace hD := fun t ht => Dt.keep hM.bel _ (hD t ht)
 replace hRl := hRl.below hM.bel
 replace hDl := fun t ht => Dt.keep hM.bel _ (hDl t ht)
 replace hRm := hRm.below hM.bel
 replace hDm := fun t ht => Dt.keep hM.bel _ (hDm t ht)
 replace hrd := Dt.keep hM.bel _ hrd
 replace hraa := Dt.keep hM.bel _ hraa
 have hHg13 := hM.here 0 (cs := [.int .i64 aa.d.k, .int .i64 aa.d.n, .bool aa.d.y.q.b1, .slice aa.d.y.o1 aa.d.y.q.t1.length aa.d.y.c1, .slice aa.d.y.o2 aa.d.y.q.q1.length aa.d.y.c2, .bool aa.d.y.q.b2, .slice aa.d.y.o3 aa.d.y.q.t2.length aa.d.y.c3, .slice aa.d.y.o4 aa.d.y.q.q2.length aa.d.y.c4, .string aa.d.s, .slice aa.d.ro aa.d.rl.length aa.d.rc, .slice aa.d.lo aa.ts.length aa.d.lc]) rfl
 replace hM : Mg w18 w18 [] := Mg.start w18
 refine seq_do hA rfl rfl rfl (does_move rfl) ?_
 intro a hA
 refine seq_do (v := .agg (bb.d.cells bb.ts.length).toArray) hA rfl rfl rfl (does_extract (vs := [.agg (bb.d.cells bb.ts.length).toArray, .int .i64 kbb]) rfl rfl) ?_
 intro a hA
 refine seq_do (v := .int .i64 kbb) hA rfl rfl rfl (does_extract (vs := [.agg (bb.d.cells bb.ts.length).toArray, .int .i64 kbb]) rfl rfl) ?_
 intro a hA
 refine s_new (vs := [.int .i64 0, .int .i64 0, .bool false, .slice none 0 0, .slice none 0 0, .bool false, .slice none 0 0, .slice none 0 0, .string (⟨#[]⟩), .slice none 0 0, .slice none 0 0]) (t := 30) hA hM rfl rfl rfl (fun g => .pointer (some ⟨g, 0, none⟩)) (does_alloc (z := .agg #[.int .i64 0, .int .i64 0, .bool false, .slice none 0 0, .slice none 0 0, .bool false, .slice none 0 0, .slice none 0 0, .string (⟨#[]⟩), .slice none 0 0, .slice none 0 0]) (by kernel_rfl) rfl) (by decide) ?_
 intro g19 w20 hM a hA
 refine s_store (us := [.int .i64 bb.d.k, .int .i64 bb.d.n, .bool bb.d.y.q.b1, .slice bb.d.y.o1 bb.d.y.q.t1.length bb.d.y.c1, .slice bb.d.y.o2 bb.d.y.q.q1.length bb.d.y.c2, .bool bb.d.y.q.b2, .slice bb.d.y.o3 bb.d.y.q.t2.length bb.d.y.c3, .slice bb.d.y.o4 bb.d.y.q.q2.length bb.d.y.c4, .string bb.d.s, .slice bb.d.ro bb.d.rl.length bb.d.rc, .slice bb.d.lo bb.ts.length bb.d.lc]) (L' := (.obj g19 (.cells (bb.d.cells bb.ts.length).toArray 30) :: [])) hA hM rfl rfl (m_store rfl rfl rfl (by kernel_rfl) hM 0 rfl rfl rfl) 0 rfl rfl rfl ?_
 intro w21 hM
 refine seq_do hA rfl rfl rfl (does_assign rfl) ?_
 intro a hA
 refine seq_end ?_
 refine hK16 _ _ ?_
 refine wp_seq_k (fun K22 hK22 => ?_)
 refine wp_region_lit ?_
 refine seq_do hA rfl rfl rfl (m_loadHS hM hHg2 LiO_isS_30 rfl rfl) ?_
 intro a hA
 refine seq_call hA rfl rfl rfl (enters_func rfl rfl (fun w => by kernel_rfl)) (reverse_any (Dt.keep hM.bel _ hrd) (by omega) (hT.below hM.bel)) ?_
 rintro _ w24 ⟨r, kr, rfl, ⟨hrr, -, htr⟩, hb23⟩
 replace hM := hM.call hb23
 refine ⟨_, rfl, ?_⟩
 intro a hA
 have hB5 := hB4.trans (hM.bel.mono hB4.size)
 replace hT := hT.below hM.bel
 replace hHg2 := hHg2.below hM.bel
 replace hHg13 := hHg13.below hM.bel
 replace hR := hR.below hM.bel
 replace hD := fun t ht => Dt.keep hM.bel _ (hD t ht)
 replace hRl := hRl.below hM.bel
 replace hDl := fun t ht => Dt.keep hM.bel _ (hDl t ht)
 replace hRm := hRm.below hM.bel
 replace hDm := fun t ht => Dt.keep hM.bel _ (hDm t ht)
 replace hrd := Dt.keep hM.bel _ hrd
 replace hraa := Dt.keep hM.bel _ hraa
 replace hrbb := Dt.keep hM.bel _ hrbb
 have hHg19 := hM.here 0 (cs := [.int .i64 bb.d.k, .int .i64 bb.d.n, .bool bb.d.y.q.b1, .slice bb.d.y.o1 bb.d.y.q.t1.length bb.d.y.c1, .slice bb.d.y.o2 bb.d.y.q.q1.length bb.d.y.c2, .bool bb.d.y.q.b2, .slice bb.d.y.o3 bb.d.y.q.t2.length bb.d.y.c3, .slice bb.d.y.o4 bb.d.y.q.q2.length bb.d.y.c4, .string bb.d.s, .slice bb.d.ro bb.d.rl.length bb.d.rc, .slice bb.d.lo bb.ts.length bb.d.lc]) rfl
 replace hM : Mg w24 w24 [] := Mg.start w24
 refine seq_do hA rfl rfl rfl (does_move rfl) ?_
 intro a hA
 refine seq_do (v := .agg (r.d.cells r.ts.length).toArray) hA rfl rfl rfl (does_extract (vs := [.agg (r.d.cells r.ts.length).toArray, .int .i64 kr]) rfl rfl) ?_
 intro a hA
 refine seq_do (v := .int .i64 kr) hA rfl rfl rfl (does_extract (vs := [.agg (r.d.cells r.ts.length).toArray, .int .i64 kr]) rfl rfl) ?_
 intro a hA
 refine s_new (vs := [.int .i64 0, .int .i64 0, .bool false, .slice none 0 0, .slice none 0 0, .bool false, .slice none 0 0, .slice none 0 0, .string (⟨#[]⟩), .slice none 0 0, .slice none 0 0]) (t := 30) hA hM rfl rfl rfl (fun g => .pointer (some ⟨g, 0, none⟩)) (does_alloc (z := .agg #[.int .i64 0, .int .i64 0, .bool false, .slice none 0 0, .slice none 0 0, .bool false, .slice none 0 0, .slice none 0 0, .string (⟨#[]⟩), .slice none 0 0, .slice none 0 0]) (by kernel_rfl) rfl) (by decide) ?_
 intro g25 w26 hM a hA
 refine s_store (us := [.int .i64 r.d.k, .int .i64 r.d.n, .bool r.d.y.q.b1, .slice r.d.y.o1 r.d.y.q.t1.length r.d.y.c1, .slice r.d.y.o2 r.d.y.q.q1.length r.d.y.c2, .bool r.d.y.q.b2, .slice r.d.y.o3 r.d.y.q.t2.length r.d.y.c3, .slice r.d.y.o4 r.d.y.q.q2.length r.d.y.c4, .string r.d.s, .slice r.d.ro r.d.rl.length r.d.rc, .slice r.d.lo r.ts.length r.d.lc]) (L' := (.obj g25 (.cells (r.d.cells r.ts.length).toArray 30) :: [])) hA hM rfl rfl (m_store rfl rfl rfl (by kernel_rfl) hM 0 rfl rfl rfl) 0 rfl rfl rfl ?_
 intro w27 hM
 refine seq_do hA rfl rfl rfl (does_assign rfl) ?_
 intro a hA
 refine seq_end ?_
 refine hK22 _ _ ?_
 refine wp_seq_k (fun K28 hK28 => ?_)
 refine wp_region_lit ?_
 refine seq_do hA rfl rfl rfl (m_loadHS hM hHg2 LiO_isS_30 rfl rfl) ?_
 intro a hA
 refine seq_call hA rfl rfl rfl (enters_func rfl rfl (fun w => by kernel_rfl)) (rreverse_any (Dt.keep hM.bel _ hrd) (by omega)) ?_
 rintro _ w30 ⟨s, ks, rfl, ⟨hrs, hts⟩, hb29⟩
 replace hM := hM.call hb29
 refine ⟨_, rfl, ?_⟩
 intro a hA
 have hB6 := hB5.trans (hM.bel.mono hB5.size)
 replace hT := hT.below hM.bel
 replace hHg2 := hHg2.below hM.bel
 replace hHg13 := hHg13.below hM.bel
 replace hHg19 := hHg19.below hM.bel
 replace hR := hR.below hM.bel
 replace hD := fun t ht => Dt.keep hM.bel _ (hD t ht)
 replace hRl := hRl.below hM.bel
 replace hDl := fun t ht => Dt.keep hM.bel _ (hDl t ht)
 replace hRm := hRm.below hM.bel
 replace hDm := fun t ht => Dt.keep hM.bel _ (hDm t ht)
 replace hrd := Dt.keep hM.bel _ hrd
 replace hraa := Dt.keep hM.bel _ hraa
 replace hrbb := Dt.keep hM.bel _ hrbb
 replace hrr := Dt.keep hM.bel _ hrr
 have hHg25 := hM.here 0 (cs := [.int .i64 r.d.k, .int .i64 r.d.n, .bool r.d.y.q.b1, .slice r.d.y.o1 r.d.y.q.t1.length r.d.y.c1, .slice r.d.y.o2 r.d.y.q.q1.length r.d.y.c2, .bool r.d.y.q.b2, .slice r.d.y.o3 r.d.y.q.t2.length r.d.y.c3, .slice r.d.y.o4 r.d.y.q.q2.length r.d.y.c4, .string r.d.s, .slice r.d.ro r.d.rl.length r.d.rc, .slice r.d.lo r.ts.length r.d.lc]) rfl
 replace hM : Mg w30 w30 [] := Mg.start w30
 refine seq_do hA rfl rfl rfl (does_move rfl) ?_
 intro a hA
 refine seq_do (v := .agg (s.d.cells s.ts.length).toArray) hA rfl rfl rfl (does_extract (vs := [.agg (s.d.cells s.ts.length).toArray, .int .i64 ks]) rfl rfl) ?_
 intro a hA
 refine seq_do (v := .int .i64 ks) hA rfl rfl rfl (does_extract (vs := [.agg (s.d.cells s.ts.length).toArray, .int .i64 ks]) rfl rfl) ?_
 intro a hA
 refine s_new (vs := [.int .i64 0, .int .i64 0, .bool false, .slice none 0 0, .slice none 0 0, .bool false, .slice none 0 0, .slice none 0 0, .string (⟨#[]⟩), .slice none 0 0, .slice none 0 0]) (t := 30) hA hM rfl rfl rfl (fun g => .pointer (some ⟨g, 0, none⟩)) (does_alloc (z := .agg #[.int .i64 0, .int .i64 0, .bool false, .slice none 0 0, .slice none 0 0, .bool false, .slice none 0 0, .slice none 0 0, .string (⟨#[]⟩), .slice none 0 0, .slice none 0 0]) (by kernel_rfl) rfl) (by decide) ?_
 intro g31 w32 hM a hA
 refine s_store (us := [.int .i64 s.d.k, .int .i64 s.d.n, .bool s.d.y.q.b1, .slice s.d.y.o1 s.d.y.q.t1.length s.d.y.c1, .slice s.d.y.o2 s.d.y.q.q1.length s.d.y.c2, .bool s.d.y.q.b2, .slice s.d.y.o3 s.d.y.q.t2.length s.d.y.c3, .slice s.d.y.o4 s.d.y.q.q2.length s.d.y.c4, .string s.d.s, .slice s.d.ro s.d.rl.length s.d.rc, .slice s.d.lo s.ts.length s.d.lc]) (L' := (.obj g31 (.cells (s.d.cells s.ts.length).toArray 30) :: [])) hA hM rfl rfl (m_store rfl rfl rfl (by kernel_rfl) hM 0 rfl rfl rfl) 0 rfl rfl rfl ?_
 intro w33 hM
 refine seq_do hA rfl rfl rfl (does_assign rfl) ?_
 intro a hA
 refine seq_end ?_
 refine hK28 _ _ ?_
 refine wp_seq_k (fun K34 hK34 => ?_)
 refine wp_region_lit ?_
 refine seq_do hA rfl rfl rfl (m_loadHS hM hHg2 LiO_isS_30 rfl rfl) ?_
 intro a hA
 refine seq_do hA rfl rfl rfl (does_move rfl) ?_
 intro a hA
 refine seq_call hA rfl rfl rfl (enters_func rfl rfl (fun w => by kernel_rfl)) (tail_any (Dt.keep hM.bel _ hrd) (by omega) (hT.below hM.bel)) ?_
 rintro _ w36 ⟨tt, ktt, rfl, ⟨hrtt, -, httt⟩, hb35⟩
 replace hM := hM.call hb35
 refine ⟨_, rfl, ?_⟩
 intro a hA
 have hB7 := hB6.trans (hM.bel.mono hB6.size)
 replace hT := hT.below hM.bel
 replace hHg2 := hHg2.below hM.bel
 replace hHg13 := hHg13.below hM.bel
 replace hHg19 := hHg19.below hM.bel
 replace hHg25 := hHg25.below hM.bel
 replace hR := hR.below hM.bel
 replace hD := fun t ht => Dt.keep hM.bel _ (hD t ht)
 replace hRl := hRl.below hM.bel
 replace hDl := fun t ht => Dt.keep hM.bel _ (hDl t ht)
 replace hRm := hRm.below hM.bel
 replace hDm := fun t ht => Dt.keep hM.bel _ (hDm t ht)
 replace hrd := Dt.keep hM.bel _ hrd
 replace hraa := Dt.keep hM.bel _ hraa
 replace hrbb := Dt.keep hM.bel _ hrbb
 replace hrr := Dt.keep hM.bel _ hrr
 replace hrs := Dt.keep hM.bel _ hrs
 have hHg31 := hM.here 0 (cs := [.int .i64 s.d.k, .int .i64 s.d.n, .bool s.d.y.q.b1, .slice s.d.y.o1 s.d.y.q.t1.length s.d.y.c1, .slice s.d.y.o2 s.d.y.q.q1.length s.d.y.c2, .bool s.d.y.q.b2, .slice s.d.y.o3 s.d.y.q.t2.length s.d.y.c3, .slice s.d.y.o4 s.d.y.q.q2.length s.d.y.c4, .string s.d.s, .slice s.d.ro s.d.rl.length s.d.rc, .slice s.d.lo s.ts.length s.d.lc]) rfl
 replace hM : Mg w36 w36 [] := Mg.start w36
 refine seq_do hA rfl rfl rfl (does_move rfl) ?_
 intro a hA
 refine seq_do (v := .agg (tt.d.cells tt.ts.length).toArray) hA rfl rfl rfl (does_extract (vs := [.agg (tt.d.cells tt.ts.length).toArray, .int .i64 ktt]) rfl rfl) ?_
 intro a hA
 refine seq_do (v := .int .i64 ktt) hA rfl rfl rfl (does_extract (vs := [.agg (tt.d.cells tt.ts.length).toArray, .int .i64 ktt]) rfl rfl) ?_
 intro a hA
 refine s_new (vs := [.int .i64 0, .int .i64 0, .bool false, .slice none 0 0, .slice none 0 0, .bool false, .slice none 0 0, .slice none 0 0, .string (⟨#[]⟩), .slice none 0 0, .slice none 0 0]) (t := 30) hA hM rfl rfl rfl (fun g => .pointer (some ⟨g, 0, none⟩)) (does_alloc (z := .agg #[.int .i64 0, .int .i64 0, .bool false, .slice none 0 0, .slice none 0 0, .bool false, .slice none 0 0, .slice none 0 0, .string (⟨#[]⟩), .slice none 0 0, .slice none 0 0]) (by kernel_rfl) rfl) (by decide) ?_
 intro g37 w38 hM a hA
 refine s_store (us := [.int .i64 tt.d.k, .int .i64 tt.d.n, .bool tt.d.y.q.b1, .slice tt.d.y.o1 tt.d.y.q.t1.length tt.d.y.c1, .slice tt.d.y.o2 tt.d.y.q.q1.length tt.d.y.c2, .bool tt.d.y.q.b2, .slice tt.d.y.o3 tt.d.y.q.t2.length tt.d.y.c3, .slice tt.d.y.o4 tt.d.y.q.q2.length tt.d.y.c4, .string tt.d.s, .slice tt.d.ro tt.d.rl.length tt.d.rc, .slice tt.d.lo tt.ts.length tt.d.lc]) (L' := (.obj g37 (.cells (tt.d.cells tt.ts.length).toArray 30) :: [])) hA hM rfl rfl (m_store rfl rfl rfl (by kernel_rfl) hM 0 rfl rfl rfl) 0 rfl rfl rfl ?_
 intro w39 hM
 refine seq_do hA rfl rfl rfl (does_assign rfl) ?_
 intro a hA
 refine seq_end ?_
 refine hK34 _ _ ?_
 refine wp_seq_k (fun K40 hK40 => ?_)
 refine wp_region_lit ?_
 refine seq_do hA rfl rfl rfl (m_loadHS hM hHg2 LiO_isS_30 rfl rfl) ?_
 intro a hA
 refine seq_do hA rfl rfl rfl (does_move rfl) ?_
 intro a hA
 refine seq_call hA rfl rfl rfl (enters_func rfl rfl (fun w => by kernel_rfl)) (rtail_any (Dt.keep hM.bel _ hrd) (by omega)) ?_
 rintro _ w42 ⟨uu, kuu, rfl, ⟨hruu, htuu⟩, hb41⟩
 replace hM := hM.call hb41
 refine ⟨_, rfl, ?_⟩
 intro a hA
 have hB8 := hB7.trans (hM.bel.mono hB7.size)
 replace hT := hT.below hM.bel
 replace hHg2 := hHg2.below hM.bel
 replace hHg13 := hHg13.below hM.bel
 replace hHg19 := hHg19.below hM.bel
 replace hHg25 := hHg25.below hM.bel
 replace hHg31 := hHg31.below hM.bel
 replace hR := hR.below hM.bel
 replace hD := fun t ht => Dt.keep hM.bel _ (hD t ht)
 replace hRl := hRl.below hM.bel
 replace hDl := fun t ht => Dt.keep hM.bel _ (hDl t ht)
 replace hRm := hRm.below hM.bel
 replace hDm := fun t ht => Dt.keep hM.bel _ (hDm t ht)
 replace hrd := Dt.keep hM.bel _ hrd
 replace hraa := Dt.keep hM.bel _ hraa
 replace hrbb := Dt.keep hM.bel _ hrbb
 replace hrr := Dt.keep hM.bel _ hrr
 replace hrs := Dt.keep hM.bel _ hrs
 replace hrtt := Dt.keep hM.bel _ hrtt
 have hHg37 := hM.here 0 (cs := [.int .i64 tt.d.k, .int .i64 tt.d.n, .bool tt.d.y.q.b1, .slice tt.d.y.o1 tt.d.y.q.t1.length tt.d.y.c1, .slice tt.d.y.o2 tt.d.y.q.q1.length tt.d.y.c2, .bool tt.d.y.q.b2, .slice tt.d.y.o3 tt.d.y.q.t2.length tt.d.y.c3, .slice tt.d.y.o4 tt.d.y.q.q2.length tt.d.y.c4, .string tt.d.s, .slice tt.d.ro tt.d.rl.length tt.d.rc, .slice tt.d.lo tt.ts.length tt.d.lc]) rfl
 replace hM : Mg w42 w42 [] := Mg.start w42
 refine seq_do hA rfl rfl rfl (does_move rfl) ?_
 intro a hA
 refine seq_do (v := .agg (uu.d.cells uu.ts.length).toArray) hA rfl rfl rfl (does_extract (vs := [.agg (uu.d.cells uu.ts.length).toArray, .int .i64 kuu]) rfl rfl) ?_
 intro a hA
 refine seq_do (v := .int .i64 kuu) hA rfl rfl rfl (does_extract (vs := [.agg (uu.d.cells uu.ts.length).toArray, .int .i64 kuu]) rfl rfl) ?_
 intro a hA
 refine s_new (vs := [.int .i64 0, .int .i64 0, .bool false, .slice none 0 0, .slice none 0 0, .bool false, .slice none 0 0, .slice none 0 0, .string (⟨#[]⟩), .slice none 0 0, .slice none 0 0]) (t := 30) hA hM rfl rfl rfl (fun g => .pointer (some ⟨g, 0, none⟩)) (does_alloc (z := .agg #[.int .i64 0, .int .i64 0, .bool false, .slice none 0 0, .slice none 0 0, .bool false, .slice none 0 0, .slice none 0 0, .string (⟨#[]⟩), .slice none 0 0, .slice none 0 0]) (by kernel_rfl) rfl) (by decide) ?_
 intro g43 w44 hM a hA
 refine s_store (us := [.int .i64 uu.d.k, .int .i64 uu.d.n, .bool uu.d.y.q.b1, .slice uu.d.y.o1 uu.d.y.q.t1.length uu.d.y.c1, .slice uu.d.y.o2 uu.d.y.q.q1.length uu.d.y.c2, .bool uu.d.y.q.b2, .slice uu.d.y.o3 uu.d.y.q.t2.length uu.d.y.c3, .slice uu.d.y.o4 uu.d.y.q.q2.length uu.d.y.c4, .string uu.d.s, .slice uu.d.ro uu.d.rl.length uu.d.rc, .slice uu.d.lo uu.ts.length uu.d.lc]) (L' := (.obj g43 (.cells (uu.d.cells uu.ts.length).toArray 30) :: [])) hA hM rfl rfl (m_store rfl rfl rfl (by kernel_rfl) hM 0 rfl rfl rfl) 0 rfl rfl rfl ?_
 intro w45 hM
 refine seq_do hA rfl rfl rfl (does_assign rfl) ?_
 intro a hA
 refine seq_end ?_
 refine hK40 _ _ ?_
 refine wp_seq_k (fun K46 hK46 => ?_)
 refine wp_region_lit ?_
 refine seq_call hA rfl rfl rfl (enters_func rfl rfl (fun w => by kernel_rfl)) (awake_any (hT.below hM.bel)) ?_
 rintro _ w48 ⟨rfl, hb47⟩
 replace hM := hM.call hb47
 refine ⟨_, rfl, ?_⟩
 intro a hA
 refine seq_do hA rfl rfl rfl (does_move rfl) ?_
 intro a hA
 refine seq_do hA rfl rfl rfl (does_move rfl) ?_
 intro a hA
 refine seq_call hA rfl rfl rfl (enters_func rfl rfl (fun w => by kernel_rfl)) (of_any (hR.below hM.bel) (fun t ht => Dt.keep hM.bel _ (hD t ht)) (by omega) (hT.below hM.bel)) ?_
 rintro _ w50 ⟨p, rfl, ⟨hrp, -, htp⟩, hb49⟩
 replace hM := hM.call hb49
 refine ⟨_, rfl, ?_⟩
 intro a hA
 have hB9 := hB8.trans (hM.bel.mono hB8.size)
 replace hT := hT.below hM.bel
 replace hHg2 := hHg2.below hM.bel
 replace hHg13 := hHg13.below hM.bel
 replace hHg19 := hHg19.below hM.bel
 replace hHg25 := hHg25.below hM.bel
 replace hHg31 := hHg31.below hM.bel
 replace hHg37 := hHg37.below hM.bel
 replace hR := hR.below hM.bel
 replace hD := fun t ht => Dt.keep hM.bel _ (hD t ht)
 replace hRl := hRl.below hM.bel
 replace hDl := fun t ht => Dt.keep hM.bel _ (hDl t ht)
 replace hRm := hRm.below hM.bel
 replace hDm := fun t ht => Dt.keep hM.bel _ (hDm t ht)
 replace hrd := Dt.keep hM.bel _ hrd
 replace hraa := Dt.keep hM.bel _ hraa
 replace hrbb := Dt.keep hM.bel _ hrbb
 replace hrr := Dt.keep hM.bel _ hrr
 replace hrs := Dt.keep hM.bel _ hrs
 replace hrtt := Dt.keep hM.bel _ hrtt
 replace hruu := Dt.keep hM.bel _ hruu
 have hHg43 := hM.here 0 (cs := [.int .i64 uu.d.k, .int .i64 uu.d.n, .bool uu.d.y.q.b1, .slice uu.d.y.o1 uu.d.y.q.t1.length uu.d.y.c1, .slice uu.d.y.o2 uu.d.y.q.q1.length uu.d.y.c2, .bool uu.d.y.q.b2, .slice uu.d.y.o3 uu.d.y.q.t2.length uu.d.y.c3, .slice uu.d.y.o4 uu.d.y.q.q2.length uu.d.y.c4, .string uu.d.s, .slice uu.d.ro uu.d.rl.length uu.d.rc, .slice uu.d.lo uu.ts.length uu.d.lc]) rfl
 replace hM : Mg w50 w50 [] := Mg.start w50
 refine seq_do hA rfl rfl rfl (does_move rfl) ?_
 intro a hA
 refine seq_call hA rfl rfl rfl (enters_func rfl rfl (fun w => by kernel_rfl)) (rof_any (hR.below hM.bel) (fun t ht => Dt.keep hM.bel _ (hD t ht)) (by omega)) ?_
 rintro _ w52 ⟨q, rfl, ⟨hrq, htq⟩, hb51⟩
 replace hM := hM.call hb51
 refine ⟨_, rfl, ?_⟩
 intro a hA
 have hB10 := hB9.trans (hM.bel.mono hB9.size)
 replace hT := hT.below hM.bel
 replace hHg2 := hHg2.below hM.bel
 replace hHg13 := hHg13.below hM.bel
 replace hHg19 := hHg19.below hM.bel
 replace hHg25 := hHg25.below hM.bel
 replace hHg31 := hHg31.below hM.bel
 replace hHg37 := hHg37.below hM.bel
 replace hHg43 := hHg43.below hM.bel
 replace hR := hR.below hM.bel
 replace hD := fun t ht => Dt.keep hM.bel _ (hD t ht)
 replace hRl := hRl.below hM.bel
 replace hDl := fun t ht => Dt.keep hM.bel _ (hDl t ht)
 replace hRm := hRm.below hM.bel
 replace hDm := fun t ht => Dt.keep hM.bel _ (hDm t ht)
 replace hrd := Dt.keep hM.bel _ hrd
 replace hraa := Dt.keep hM.bel _ hraa
 replace hrbb := Dt.keep hM.bel _ hrbb
 replace hrr := Dt.keep hM.bel _ hrr
 replace hrs := Dt.keep hM.bel _ hrs
 replace hrtt := Dt.keep hM.bel _ hrtt
 replace hruu := Dt.keep hM.bel _ hruu
 replace hrp := Dt.keep hM.bel _ hrp
 replace hM : Mg w52 w52 [] := Mg.start w52
 refine seq_call hA rfl rfl rfl (enters_func rfl rfl (fun w => by kernel_rfl)) ((((sameT_eq p.tr q.tr).2 (htp.trans htq.symm)) ▸ rsames_all (p.tr.bulk + 1) (t := p) (u := q) (Nat.lt_succ_self _) (Dt.keep hM.bel _ hrp) (Dt.keep hM.bel _ hrq))) ?_
 rintro _ w54 ⟨rfl, hb53⟩
 replace hM := hM.call hb53
 refine ⟨_, rfl, ?_⟩
 intro a hA
 refine seq_do (v := .bool true) hA rfl rfl rfl (does_pick rfl rfl rfl rfl) ?_
 intro a hA
 refine seq_do hA rfl rfl rfl (does_move rfl) ?_
 intro a hA
 refine seq_do hA rfl rfl rfl (does_move rfl) ?_
 intro a hA
 refine seq_do hA rfl rfl rfl (does_move rfl) ?_
 intro a hA
 refine seq_call hA rfl rfl rfl (enters_func rfl rfl (fun w => by kernel_rfl)) (sameAll_any (hRl.below hM.bel) (fun t ht => Dt.keep hM.bel _ (hDl t ht)) (hRm.below hM.bel) (fun t ht => Dt.keep hM.bel _ (hDm t ht)) ((congrArg Prod.fst htl).trans (congrArg Prod.fst htm).symm) (by have h7 := congrArg (fun z => z.1.length) htl; simp only [List.length_map] at h7; have h8 := item_len d.tr; omega)) ?_
 rintro _ w56 ⟨rfl, hb55⟩
 replace hM := hM.call hb55
 refine ⟨_, rfl, ?_⟩
 intro a hA
 refine seq_do (v := .bool true) hA rfl rfl rfl (does_pick rfl rfl rfl rfl) ?_
 intro a hA
 refine seq_do hA rfl rfl rfl (does_move rfl) ?_
 intro a hA
 refine seq_do hA rfl rfl rfl (does_move rfl) ?_
 intro a hA
 refine seq_do hA rfl rfl rfl (does_move rfl) ?_
 intro a hA
 refine seq_do (v := .bool true) hA rfl rfl rfl (does_bin rfl rfl (fun w => (bin_eql w).trans (by rw [show ((kl == km)) = true from (beq_iff_eq.2 ((congrArg Prod.snd htl).trans (congrArg Prod.snd htm).symm))]))) ?_
 intro a hA
 refine seq_do (v := .bool true) hA rfl rfl rfl (does_pick rfl rfl rfl rfl) ?_
 intro a hA
 refine seq_do hA rfl rfl rfl (does_move rfl) ?_
 intro a hA
 refine seq_do hA rfl rfl rfl (m_loadHS hM hHg13 LiO_isS_30 rfl rfl) ?_
 intro a hA
 refine seq_do hA rfl rfl rfl (m_loadHS hM hHg19 LiO_isS_30 rfl rfl) ?_
 intro a hA
 refine seq_call hA rfl rfl rfl (enters_func rfl rfl (fun w => by kernel_rfl)) ((((sameT_eq aa.tr bb.tr).2 ((congrArg Prod.fst htaa).trans (congrArg Prod.fst htbb).symm)) ▸ rsames_all (aa.tr.bulk + 1) (t := aa) (u := bb) (Nat.lt_succ_self _) (Dt.keep hM.bel _ hraa) (Dt.keep hM.bel _ hrbb))) ?_
 rintro _ w58 ⟨rfl, hb57⟩
 replace hM := hM.call hb57
 refine ⟨_, rfl, ?_⟩
 intro a hA
 refine seq_do (v := .bool true) hA rfl rfl rfl (does_pick rfl rfl rfl rfl) ?_
 intro a hA
 refine seq_do hA rfl rfl rfl (does_move rfl) ?_
 intro a hA
 refine seq_do hA rfl rfl rfl (does_move rfl) ?_
 intro a hA
 refine seq_do hA rfl rfl rfl (does_move rfl) ?_
 intro a hA
 refine seq_do (v := .bool true) hA rfl rfl rfl (does_bin rfl rfl (fun w => (bin_eql w).trans (by rw [show ((kaa == kbb)) = true from (beq_iff_eq.2 ((congrArg Prod.snd htaa).trans (congrArg Prod.snd htbb).symm))]))) ?_
 intro a hA
 refine seq_do (v := .bool true) hA rfl rfl rfl (does_pick rfl rfl rfl rfl) ?_
 intro a hA
 refine seq_do hA rfl rfl rfl (does_move rfl) ?_
 intro a hA
 refine seq_do hA rfl rfl rfl (m_loadHS hM hHg25 LiO_isS_30 rfl rfl) ?_
 intro a hA
 refine seq_do hA rfl rfl rfl (m_loadHS hM hHg31 LiO_isS_30 rfl rfl) ?_
 intro a hA
 refine seq_call hA rfl rfl rfl (enters_func rfl rfl (fun w => by kernel_rfl)) ((((sameT_eq r.tr s.tr).2 ((congrArg Prod.fst htr).trans (congrArg Prod.fst hts).symm)) ▸ rsames_all (r.tr.bulk + 1) (t := r) (u := s) (Nat.lt_succ_self _) (Dt.keep hM.bel _ hrr) (Dt.keep hM.bel _ hrs))) ?_
 rintro _ w60 ⟨rfl, hb59⟩
 replace hM := hM.call hb59
 refine ⟨_, rfl, ?_⟩
 intro a hA
 refine seq_do (v := .bool true) hA rfl rfl rfl (does_pick rfl rfl rfl rfl) ?_
 intro a hA
 refine seq_do hA rfl rfl rfl (does_move rfl) ?_
 intro a hA
 refine seq_do hA rfl rfl rfl (does_move rfl) ?_
 intro a hA
 refine seq_do hA rfl rfl rfl (does_move rfl) ?_
 intro a hA
 refine seq_do (v := .bool true) hA rfl rfl rfl (does_bin rfl rfl (fun w => (bin_eql w).trans (by rw [show ((kr == ks)) = true from (beq_iff_eq.2 ((congrArg Prod.snd htr).trans (congrArg Prod.snd hts).symm))]))) ?_
 intro a hA
 refine seq_do (v := .bool true) hA rfl rfl rfl (does_pick rfl rfl rfl rfl) ?_
 intro a hA
 refine seq_do hA rfl rfl rfl (does_move rfl) ?_
 intro a hA
 refine seq_do hA rfl rfl rfl (m_loadHS hM hHg37 LiO_isS_30 rfl rfl) ?_
 intro a hA
 refine seq_do hA rfl rfl rfl (m_loadHS hM hHg43 LiO_isS_30 rfl rfl) ?_
 intro a hA
 refine seq_call hA rfl rfl rfl (enters_func rfl rfl (fun w => by kernel_rfl)) ((((sameT_eq tt.tr uu.tr).2 ((congrArg Prod.fst httt).trans (congrArg Prod.fst htuu).symm)) ▸ rsames_all (tt.tr.bulk + 1) (t := tt) (u := uu) (Nat.lt_succ_self _) (Dt.keep hM.bel _ hrtt) (Dt.keep hM.bel _ hruu))) ?_
 rintro _ w62 ⟨rfl, hb61⟩
 replace hM := hM.call hb61
 refine ⟨_, rfl, ?_⟩
 intro a hA
 refine seq_do (v := .bool true) hA rfl rfl rfl (does_pick rfl rfl rfl rfl) ?_
 intro a hA
 refine seq_do hA rfl rfl rfl (does_move rfl) ?_
 intro a hA
 refine seq_do hA rfl rfl rfl (does_move rfl) ?_
 intro a hA
 refine seq_do hA rfl rfl rfl (does_move rfl) ?_
 intro a hA
 refine seq_do (v := .bool true) hA rfl rfl rfl (does_bin rfl rfl (fun w => (bin_eql w).trans (by rw [show ((ktt == kuu)) = true from (beq_iff_eq.2 ((congrArg Prod.snd httt).trans (congrArg Prod.snd htuu).symm))]))) ?_
 intro a hA
 refine seq_do (v := .bool true) hA rfl rfl rfl (does_pick rfl rfl rfl rfl) ?_
 intro a hA
 refine seq_do hA rfl rfl rfl (does_assign rfl) ?_
 intro a hA
 refine seq_end ?_
 refine hK46 _ _ ?_
 refine wp_ret ?_
 refine hret _ _ ?_
 refine ends (v := .bool true) hA rfl (.cons (res_tmp rfl) .nil) rfl ?_
 exact ⟨rfl, hB10.trans (hM.bel.mono hB10.size)⟩
end Go.Proofs.YtbnjomifogjdfaaGreatDoor.G
namespace Go.Proofs.YtbnjomifogjdfaaGreatDoor
set_option linter.unusedVariables false

section
variable {H : Type}
theorem bulk_pos (d : DataW H) : 0 < Rows.uptoBulk d := by
  unfold Rows.uptoBulk
  split <;> omega
theorem bulk_len : ∀ l : List (DataW H), l.length ≤ Rows.uptoBulkAll l
  | [] => by simp
  | d :: l => by
    have h1 := bulk_pos d
    have h2 := bulk_len l
    simp only [Rows.uptoBulkAll, List.length_cons]
    omega
theorem bulk_row (xs ys : List (DataW H)) : xs.length ≤ Rows.uptoBulk (.slice xs ys) := by
  have := bulk_len xs
  simp only [Rows.uptoBulk]
  omega
theorem bulk_in {d : DataW H} : ∀ {l : List (DataW H)}, d ∈ l → Rows.uptoBulk d ≤ Rows.uptoBulkAll l
  | c :: l, h => by
    simp only [Rows.uptoBulkAll]
    rcases List.mem_cons.1 h with rfl | h
    · omega
    · have := bulk_in h
      omega
theorem bulk_at {l : List (DataW H)} (hk : Rows.uptoSmall H l = true) {j : Nat} {d : DataW H} (hd : l[j]? = some d) : Rows.uptoBulk d ≤ 1048576 :=
  Nat.le_trans (bulk_in (List.mem_of_getElem? hd)) (of_decide_eq_true hk)
end
end Go.Proofs.YtbnjomifogjdfaaGreatDoor
namespace Go.Proofs.YtbnjomifogjdfaaGreatDoor.G
open Go.ChangeShapes Go.WideShapes Go.ChangeAt Go.RowKit Go.Joins Go.Deep
set_option linter.unusedVariables false
set_option linter.unusedSimpArgs false
set_option maxRecDepth 100000

section
variable {H : Type} {enc : TypeId × Value → H} {W : World}
end
end Go.Proofs.YtbnjomifogjdfaaGreatDoor.G
namespace Go.Proofs.YtbnjomifogjdfaaGreatDoor.G
open Go.ChangeShapes Go.WideShapes Go.ChangeAt Go.RowKit Go.Joins Go.Deep
set_option linter.unusedVariables false
set_option linter.unusedSimpArgs false
set_option maxRecDepth 100000

theorem bytes_row {w : World} {x : Addr} {len cap : Nat} {zs : List Int} (hl : len ≤ cap) (hz : zs.length = cap)
    (hc : ∀ i, i < zs.length → w.cell? (x.add i) = some (.int .u8 (zs.getD i 0))) (hw : ∀ n ∈ zs, (Lit.int .u8 n).wf = true) :
    ∃ l : List UInt8, l.length = len ∧ Rb w (some x) l := by
  have hbd : ∀ n ∈ zs, 0 ≤ n ∧ n < 256 := by
    intro n hn
    have := bounds_u8 (hw n hn)
    omega
  refine ⟨(zs.take len).map b8, by rw [List.length_map, List.length_take]; omega, ⟨fun hne => ?_⟩⟩
  have hlen : ((zs.take len).map b8).length = len := by rw [List.length_map, List.length_take]; omega
  have h0 : 0 < len := by
    apply Classical.byContradiction
    intro h
    have : len = 0 := by omega
    subst this
    simp at hne
  obtain ⟨b, off, spot⟩ := x
  have hspot : spot = none := by
    have := hc 0 (by omega)
    simp only [World.cell?, Addr.add] at this
    split at this
    · cases spot with
      | none => rfl
      | some s => simp at this
    · cases this
  subst hspot
  have hcj : ∀ j, j < len → w.cell? ⟨b, off + j, none⟩ = some (.int .u8 (((((zs.take len).map b8).getD j 0).toNat : Nat) : Int)) := by
    intro j hj
    have h1 := hc j (by omega)
    rw [Addr.add_lit] at h1
    rw [h1]
    have hjz : j < zs.length := by omega
    have h2 := hbd zs[j] (List.getElem_mem hjz)
    have e1 : zs.getD j 0 = zs[j] := by simp [hjz]
    have e2 : ((zs.take len).map b8).getD j 0 = b8 zs[j] := by simp [List.getD_eq_getElem?_getD, hj, hjz]
    rw [e1, e2, b8_val h2.1 h2.2]
  refine ⟨b, off, rfl, ?_, fun j hj => hcj j (by omega)⟩
  have := hcj 0 h0
  apply Classical.byContradiction
  intro h
  simp [World.cell?, Array.getElem?_eq_none (Nat.le_of_not_lt h)] at this
section
variable {H : Type} {enc : TypeId × Value → H} {W : World}
end
theorem Rb.take {w : World} {so : Option Addr} {l : List UInt8} (h : Rb w so l) (n : Nat) : Rb w so (l.take n) := by
  refine ⟨fun hne => ?_⟩
  obtain ⟨b, off, h1, h2, h3⟩ := h.pos (fun k => hne (by rw [k]; simp))
  refine ⟨b, off, h1, h2, fun j hj => ?_⟩
  rw [List.length_take] at hj
  rw [h3 j (by omega), List.getD_eq_getElem?_getD, List.getD_eq_getElem?_getD, List.getElem?_take_of_lt (by omega)]
section
variable {P : Program} {w : World} {l : List (Nat × Value)} {dst : Option Tmp} {ty : TypeId} {pos : String} {after : Array Edge} {guard : Option (Nat × Bool)}
end
end Go.Proofs.YtbnjomifogjdfaaGreatDoor.G
namespace Go.Proofs.YtbnjomifogjdfaaGreatDoor.G
open Go.ChangeShapes Go.WideShapes Go.ChangeAt Go.RowKit Go.Joins Go.Deep
set_option linter.unusedVariables false
set_option linter.unusedSimpArgs false
set_option maxRecDepth 100000

def Nu.cells (y : Nu) : List Value := [.bool y.q.b1, .slice y.o1 y.q.t1.length y.c1, .slice y.o2 y.q.q1.length y.c2, .bool y.q.b2, .slice y.o3 y.q.t2.length y.c3, .slice y.o4 y.q.q2.length y.c4]
theorem cellD_lt {w : World} {b o : Nat} {v : Value} (h : w.cell? ⟨b, o, none⟩ = some v) : b < w.heap.size := by
  apply Classical.byContradiction
  intro k
  simp [World.cell?, Array.getElem?_eq_none (Nat.le_of_not_lt k)] at h
section
variable {H : Type} {enc : TypeId × Value → H} {W : World}
theorem bulk_agg (l : List (DataW H)) : Rows.uptoBulk (.agg l) = Rows.uptoBulkAll l + 1 := by simp only [Rows.uptoBulk]
theorem trodU_bytes {fuel : Nat} {v : Value} {x : DataW H × List MemPlace} (h : DataW.trod enc Tryz.prog W 0 (fun _ => true) true fuel 28 [v] = some x) : ∃ so cap l, v = .slice so (l : List UInt8).length cap ∧ Rb W so l ∧ l.length ≤ cap ∧ cap ≤ 9223372036854775807 ∧ l.length ≤ Rows.uptoBulk x.1 := by
  rcases open_ints Tryz.underlying28 Tryz.underlying5 (by kernel_rfl) h with ⟨hcs, _⟩ | ⟨x, l, c, zs, hcs, _, hl, hm, hz, hx, hcell, hwz⟩
  · simp only [List.cons.injEq, and_true] at hcs
    subst hcs
    exact ⟨none, 0, [], rfl, ⟨fun k => absurd rfl k⟩, Nat.le_refl _, by decide, Nat.zero_le _⟩
  · simp only [List.cons.injEq, and_true] at hcs
    subst hcs
    obtain ⟨us, e, ha⟩ := bytes_row hl (by simpa using hz) hcell hwz
    subst e
    subst hx
    refine ⟨_, _, us, rfl, ha, hl, hm, ?_⟩
    simp only [if_true] at hz
    refine Nat.le_trans ?_ (bulk_row _ _)
    simp only [lits, List.length_map, List.length_take, List.length_drop]
    omega
theorem trodU_words {fuel : Nat} {v : Value} {x : DataW H × List MemPlace} (h : DataW.trod enc Tryz.prog W 0 (fun _ => true) true fuel 23 [v] = some x) : ∃ ao c l, v = .slice ao (l : List Nat).length c ∧ Arg W ao c l ∧ l.length ≤ Rows.uptoBulk x.1 := by
  rcases open_ints Tryz.underlying23 Tryz.underlying89 (by kernel_rfl) h with ⟨hcs, _⟩ | ⟨x, l, c, zs, hcs, _, hl, hm, hz, hx, hcell, hwz⟩
  · cases hcs
    exact ⟨none, 0, [], rfl, arg_nil W, Nat.zero_le _⟩
  · cases hcs
    obtain ⟨us, e, ha⟩ := arg_row hl hm (by simpa using hz) hcell hwz
    subst e
    subst hx
    refine ⟨_, _, us, rfl, ha, ?_⟩
    simp only [if_true] at hz
    refine Nat.le_trans ?_ (bulk_row _ _)
    simp only [lits, List.length_map, List.length_take, List.length_drop]
    omega
theorem trodU_rat {fuel : Nat} {v0 v1 v2 : Value} {x : DataW H × List MemPlace} (h : DataW.trod enc Tryz.prog W 0 (fun _ => true) true fuel 25 [v0, v1, v2] = some x) : ∃ b o1 c1 l1 o2 c2 l2, v0 = .bool b ∧ v1 = .slice o1 (l1 : List Nat).length c1 ∧ v2 = .slice o2 (l2 : List Nat).length c2 ∧ Arg W o1 c1 l1 ∧ Arg W o2 c2 l2 ∧ l1.length + l2.length ≤ Rows.uptoBulk x.1 := by
  obtain ⟨y0, y1, y2, n, hx, _, h0, h1, h2⟩ := trod_struct3 Tryz.underlying25 h
  have e0 : Tryz.prog.cellsOf 4 = 1 := by kernel_rfl
  have e1 : Tryz.prog.cellsOf 23 = 1 := by kernel_rfl
  simp only [e0, e1, List.drop_zero, List.take_succ_cons, List.take_zero, List.drop_succ_cons] at h0 h1 h2
  obtain ⟨b, rfl⟩ := trod_bool h0
  obtain ⟨o1, c1, l1, rfl, a1, k1⟩ := trodU_words h1
  obtain ⟨o2, c2, l2, rfl, a2, k2⟩ := trodU_words h2
  refine ⟨b, o1, c1, l1, o2, c2, l2, rfl, rfl, rfl, a1, a2, ?_⟩
  rw [hx, bulk_agg]
  simp only [Rows.uptoBulkAll]
  omega
theorem trodU_num {fuel : Nat} {cs : List Value} {x : DataW H × List MemPlace} (hl : cs.length = 6) (h : DataW.trod enc Tryz.prog W 0 (fun _ => true) true fuel 27 cs = some x) :
    ∃ y : Nu, cs = y.cells ∧ y.nm W ∧ LenQ y.q ∧ y.q.t1.length + y.q.q1.length + (y.q.t2.length + y.q.q2.length) ≤ Rows.uptoBulk x.1 := by
  match cs, hl with
  | [v0, v1, v2, v3, v4, v5], _ =>
    obtain ⟨y0, y1, n, hx, _, h0, h1⟩ := trod_struct2 Tryz.underlying27 h
    have e : Tryz.prog.cellsOf 25 = 3 := by kernel_rfl
    simp only [e, List.drop_zero, List.take_succ_cons, List.take_zero, List.drop_succ_cons] at h0 h1
    obtain ⟨b1, o1, c1, l1, o2, c2, l2, rfl, rfl, rfl, a1, a2, k1⟩ := trodU_rat h0
    obtain ⟨b2, o3, c3, l3, o4, c4, l4, rfl, rfl, rfl, a3, a4, k2⟩ := trodU_rat h1
    refine ⟨⟨⟨b1, l1, l2, b2, l3, l4⟩, o1, c1, o2, c2, o3, c3, o4, c4⟩, rfl, ⟨⟨a1.rd, a1.nil, a1.caps⟩, ⟨a2.rd, a2.nil, a2.caps⟩, ⟨a3.rd, a3.nil, a3.caps⟩, ⟨a4.rd, a4.nil, a4.caps⟩⟩, ⟨a1.len, a2.len, a3.len, a4.len⟩, ?_⟩
    rw [hx, bulk_agg]
    simp only [Rows.uptoBulkAll]
    omega
/-- One datum, as it lies in a row of cells; and a list of them. -/
def OpenD (H : Type) (enc : TypeId × Value → H) (W : World) (fuel : Nat) : Prop := ∀ (cs : List Value) (x : DataW H × List MemPlace), DataW.trod enc Tryz.prog W 0 (fun _ => true) true fuel 30 cs = some x → ∃ t : Dt, cs = t.cells ∧ t.rd W ∧ t.tr.bulk ≤ Rows.uptoBulk x.1
theorem trodU_data {fuel : Nat} {v : Value} {x : DataW H × List MemPlace} (ih : ∀ n, n < fuel → OpenD H enc W n) (h : DataW.trod enc Tryz.prog W 0 (fun _ => true) true fuel 22 [v] = some x) :
    ∃ lo lc ts, v = .slice lo (ts : List Dt).length lc ∧ ts.length ≤ lc ∧ lc ≤ 9223372036854775807 ∧ Rt W lo ts ∧ (∀ t ∈ ts, t.rd W) ∧ Tr.bulks (ts.map Dt.tr) ≤ Rows.uptoBulk x.1 := by
  rcases DataW.trod_slice Tryz.underlying22 h with ⟨hcs, _⟩ | ⟨a, len, cap, elems, rest, n, hf, hcs, hx, _, hl, hm, hlen, hel, _, _⟩
  · simp only [List.cons.injEq, and_true] at hcs
    subst hcs
    exact ⟨none, 0, [], rfl, Nat.le_refl _, by decide, fun k => absurd rfl k, fun _ k => by simp at k, Nat.zero_le _⟩
  · simp only [List.cons.injEq, and_true] at hcs
    subst hcs
    rw [show Tryz.prog.cellsOf 30 = 11 from by kernel_rfl] at hel
    have each : ∀ i, ∃ t : Dt, i < len → t.rd W ∧ (∀ j v, t.cells[j]? = some v → W.cell? ((a.add (i * 11)).add j) = some v) ∧ ∃ y, elems[i]? = some y ∧ t.tr.bulk ≤ Rows.uptoBulk y.1 := by
      intro i
      by_cases hi : i < len
      · have h1 := hel i hi
        rw [List.getElem?_eq_getElem (by omega)] at h1
        obtain ⟨cs, h2, h3⟩ := Option.bind_eq_some_iff.1 h1
        obtain ⟨_, hlc, hcell⟩ := World.cells?_some h2
        obtain ⟨t, rfl, hr, hb⟩ := ih n (by omega) cs _ h3
        exact ⟨t, fun _ => ⟨hr, fun j v hj => by rw [hcell j (by have := (List.getElem?_eq_some_iff.1 hj).1; rw [hlc] at this; exact this)]; exact hj, _, List.getElem?_eq_getElem (by omega), hb⟩⟩
      · exact ⟨.mk ⟨0, 0, ⟨⟨false, [], [], false, [], []⟩, none, 0, none, 0, none, 0, none, 0⟩, ⟨#[]⟩, none, 0, [], none, 0⟩ [], fun k => absurd k hi⟩
    obtain ⟨F, hF⟩ := Classical.skolem.1 each
    have hget : ∀ (j : Nat) (q : Dt), ((List.range len).map F)[j]? = some q → j < len ∧ q = F j := by
      intro j q hq
      rw [List.getElem?_map] at hq
      obtain ⟨y, h1, h2⟩ := Option.map_eq_some_iff.1 hq
      obtain ⟨h3, h4⟩ := List.getElem?_eq_some_iff.1 h1
      rw [List.length_range] at h3
      rw [List.getElem_range] at h4
      subst h4
      exact ⟨h3, h2.symm⟩
    refine ⟨some a, cap, (List.range len).map F, by simp, by simpa using hl, hm, fun hne => ?_, fun t ht => ?_, ?_⟩
    · have hn : 0 < len := by
        apply Classical.byContradiction
        intro k
        exact hne (by rw [show len = 0 from by omega]; rfl)
      obtain ⟨b, off, spot⟩ := a
      have h0 := (hF 0 hn).2.1 0 _ rfl
      have hspot : spot = none := by simpa [Addr.add] using World.cell?_spot h0
      subst hspot
      refine ⟨b, off, rfl, fun i t hi => ?_⟩
      obtain ⟨hlt, rfl⟩ := hget i t hi
      have hat : ∀ j v, (F i).cells[j]? = some v → W.cell? ⟨b, off + i * 11 + j, none⟩ = some v := fun j v hj => by
        have := (hF i hlt).2.1 j v hj
        rwa [Addr.add_lit, Addr.add_lit] at this
      exact ⟨cellD_lt (hat 0 _ rfl), hat⟩
    · obtain ⟨j, hj⟩ := List.mem_iff_getElem?.1 ht
      obtain ⟨h1, rfl⟩ := hget j t hj
      exact (hF j h1).1
    · rw [hx]
      have key : ∀ m, m ≤ len → Tr.bulks (((List.range m).map F).map Dt.tr) ≤ Rows.uptoBulkAll ((elems.map (·.1)).take m) := by
        intro m
        induction m with
        | zero => intro _; simp [Tr.bulks]
        | succ m ih2 =>
          intro hm2
          have hs : ∀ (l : List Tr) (t : Tr), Tr.bulks (l ++ [t]) = Tr.bulks l + t.bulk := by
            intro l t
            induction l with
            | nil => simp [Tr.bulks]
            | cons u l ih3 => simp only [List.cons_append, Tr.bulks, ih3]; omega
          have hu : ∀ (l : List (DataW H)) (d : DataW H), Rows.uptoBulkAll (l ++ [d]) = Rows.uptoBulkAll l + Rows.uptoBulk d := by
            intro l d
            induction l with
            | nil => simp [Rows.uptoBulkAll]
            | cons u l ih3 => simp only [List.cons_append, Rows.uptoBulkAll, ih3]; omega
          obtain ⟨_, _, y, hy, hb⟩ := hF m (by omega)
          have := ih2 (by omega)
          rw [List.range_succ, List.map_append, List.map_append, List.take_add_one, List.getElem?_map, hy]
          simp only [List.map_cons, List.map_nil, Option.map_some, Option.toList_some]
          rw [hs, hu]
          omega
      have h1 := key len (Nat.le_refl _)
      rw [List.take_of_length_le (by rw [List.length_map]; omega)] at h1
      simp only [Rows.uptoBulk]
      omega
theorem open_dt : ∀ fuel, OpenD H enc W fuel := by
  intro fuel
  induction fuel using Nat.strongRecOn with
  | ind fuel ih =>
    intro cs x h
    obtain ⟨xs, n, hfu, hx, hl, hxl, hf⟩ := DataW.trod_struct Tryz.underlying30 h
    rw [show Tryz.prog.cellsOf 30 = 11 from by kernel_rfl] at hl
    match cs, hl with
    | [v0, v1, v2, v3, v4, v5, v6, v7, v8, v9, v10], _ =>
      match xs, hxl with
      | [x0, x1, x2, x3, x4, x5], _ =>
        have g0 := hf 0 _ rfl
        have g1 := hf 1 _ rfl
        have g2 := hf 2 _ rfl
        have g3 := hf 3 _ rfl
        have g4 := hf 4 _ rfl
        have g5 := hf 5 _ rfl
        have c1 : Tryz.prog.cellsOf 3 = 1 := by kernel_rfl
        have c2 : Tryz.prog.cellsOf 27 = 6 := by kernel_rfl
        have c3 : Tryz.prog.cellsOf 9 = 1 := by kernel_rfl
        have c4 : Tryz.prog.cellsOf 28 = 1 := by kernel_rfl
        have c5 : Tryz.prog.cellsOf 22 = 1 := by kernel_rfl
        simp only [c1, c2, c3, c4, c5, List.drop_zero, List.take_succ_cons, List.take_zero, List.drop_succ_cons, List.getElem?_cons_zero, List.getElem?_cons_succ] at g0 g1 g2 g3 g4 g5
        obtain ⟨k, e0, _, w0⟩ := DataW.trod_int Tryz.underlying3 g0
        obtain ⟨m, e1, _, w1⟩ := DataW.trod_int Tryz.underlying3 g1
        obtain ⟨y, e2, hy, hq, b2⟩ := trodU_num rfl g2
        obtain ⟨s, e3, hs, hsm⟩ := DataW.trod_string Tryz.underlying9 g3
        obtain ⟨ro, rc, rl, e4, hr, hrc, hrm, b4⟩ := trodU_bytes g4
        obtain ⟨lo, lc, ts, e5, hlc, hlm, hrt, hrd, b5⟩ := trodU_data (fun n' hn' => ih n' (by omega)) g5
        have bk := bounds_i64 w0
        have bm := bounds_i64 w1
        refine ⟨.mk ⟨k, m, y, s, ro, rc, rl, lo, lc⟩ ts, ?_, ?_, ?_⟩
        · injection e0 with f0
          injection e1 with f1
          injection e3 with f3
          injection e2 with e20 g
          injection g with e21 g
          injection g with e22 g
          injection g with e23 g
          injection g with e24 g
          injection g with e25 g
          subst f0 f1 f3 e4 e5 e20 e21 e22 e23 e24 e25
          rfl
        · rw [Dt.rd_iff]
          exact ⟨⟨hy, hq, hr, hrc, hrm, bk.1, bk.2, bm.1, bm.2, hsm⟩, hlc, hlm, hrt, hrd⟩
        · rw [Dt.tr_mk, trbulk_mk, hx, bulk_agg]
          have h3 : Rows.uptoBulk x3.1 = s.size + 1 := by
            rw [hs]
            rw [show Rows.uptoBulk (DataW.lit (H := H) (.string s.data.toList)) = s.data.toList.length + 1 from by simp only [Rows.uptoBulk], Array.length_toList]
            rfl
          simp only [List.map_cons, List.map_nil, Rows.uptoBulkAll]
          have := bulk_pos x0.1
          omega
theorem open_datum {base : Nat} {v : Value} {d : DataW H} {p : List MemPlace} (hv : Value.okWide Tryz.prog W .any base 30 v) (h : DataW.Trod enc Tryz.prog W 0 (fun _ => true) true 30 v d p) :
    ∃ t : Dt, v = .agg t.cells.toArray ∧ t.rd W ∧ t.tr.bulk ≤ Rows.uptoBulk d := by
  obtain ⟨cs, rfl, hsz⟩ := okWide_struct Tryz.underlying30 hv
  obtain ⟨fuel, hf⟩ := h
  obtain ⟨t, e, hr, hb⟩ := open_dt fuel _ _ hf
  refine ⟨t, ?_, hr, hb⟩
  rw [← e]
  rfl
theorem open_data {base : Nat} {v : Value} {d : DataW H} {p : List MemPlace} (hv : Value.okWide Tryz.prog W .any base 22 v) (h : DataW.Trod enc Tryz.prog W 0 (fun _ => true) true 22 v d p) :
    ∃ lo lc ts, v = .slice lo (ts : List Dt).length lc ∧ ts.length ≤ lc ∧ Rt W lo ts ∧ (∀ t ∈ ts, t.rd W) ∧ Tr.bulks (ts.map Dt.tr) ≤ Rows.uptoBulk d := by
  obtain ⟨a, n, c, rfl⟩ := okWide_slice Tryz.underlying22 hv
  obtain ⟨fuel, hf⟩ := h
  obtain ⟨lo, lc, ts, e, h1, _, h2, h3, h4⟩ := trodU_data (v := .slice a n c) (fun n _ => open_dt n) hf
  exact ⟨lo, lc, ts, e, h1, h2, h3, h4⟩
end
end Go.Proofs.YtbnjomifogjdfaaGreatDoor.G
