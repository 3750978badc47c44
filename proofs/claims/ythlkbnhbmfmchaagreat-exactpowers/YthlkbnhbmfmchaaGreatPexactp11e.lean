/- The walk of the law of powers. Numbers that come in as arguments. -/
import Derived.Test.YthlkbnhbmfmchaaGreatPexactp11d
import Derived.Test.YthlkbnhbmfmchaaGreatPexactp11a
import Derived.Test.YthlkbnhbmfmchaaGreatArgs
import Derived.WalkKit
import Derived.ProofKit
import Derived.OpenShut
import Derived.ChangeOld
import Derived.Lib.SmallJoins
import Derived.Deep.Strs
namespace Go.Proofs.YthlkbnhbmfmchaaGreat
open Go.RowKit
set_option linter.unusedVariables false
set_option linter.unusedSimpArgs false
set_option maxRecDepth 100000
theorem SmJ_is1_22 : Is1 Tryz.prog 22 := ⟨⟨_, Tryz.underlying22, rfl⟩, by kernel_rfl⟩
theorem SmJ_fld_24_1 : FieldAt Tryz.prog 24 1 1 := ⟨_, _, Tryz.underlying24, rfl, rfl, by kernel_rfl⟩
theorem SmJ_fld_24_2 : FieldAt Tryz.prog 24 2 2 := ⟨_, _, Tryz.underlying24, rfl, rfl, by kernel_rfl⟩
theorem SmJ_fld_26_0 : FieldAt Tryz.prog 26 0 0 := ⟨_, _, Tryz.underlying26, rfl, rfl, by kernel_rfl⟩
theorem SmJ_fld_26_1 : FieldAt Tryz.prog 26 1 3 := ⟨_, _, Tryz.underlying26, rfl, rfl, by kernel_rfl⟩
theorem SmJ_isS_26 : IsS Tryz.prog 26 6 := ⟨⟨_, Tryz.underlying26⟩, by kernel_rfl⟩
set_option maxHeartbeats 1000000 in
theorem powersW_any {w : World} {p : Q6} {a1 a2 a3 a4 : Option Addr} {ac1 ac2 ac3 ac4 : Nat} (ha : Nm w p a1 ac1 a2 ac2 a3 ac3 a4 ac4) (hl : LenQ p) {n : Int} {Z : Int → Q6 × Int} (eZ : ∀ m, exptQ p m = Z m) (lZ : ∀ m, LenQ (Z m).1) : Calls Tryz.prog 5 #[numV p a1 ac1 a2 ac2 a3 ac3 a4 ac4, .int .i64 n] w fun e w' => e = .returned (.bool true) ∧ Below w.heap.size w w' := by
 have hS : St w w [] [(a4, p.q2), (a3, p.t2), (a2, p.q1), (a1, p.t1)] [] := ((((St.start w).addR ha.s1.rd).addR ha.s2.rd).addR ha.s3.rd).addR ha.s4.rd
 refine walk_of (l := [(0, .agg #[.bool p.b1, .slice a1 p.t1.length ac1, .slice a2 p.q1.length ac2, .bool p.b2, .slice a3 p.t2.length ac3, .slice a4 p.q2.length ac4]), (1, .int .i64 n)]) Tryz.func5 rfl Tryz.ntmps5 rfl rfl ?_
 intro Q hret hnorm hP a hA
 refine wp_seq_k (fun K1 hK1 => ?_)
 refine wp_region_lit ?_
 refine seq_new hA hS rfl rfl rfl (fun g => .pointer (some ⟨g, 0, none⟩)) (d_box rfl rfl) rfl ?_
 intro g2 w3 hS a hA
 refine seq_do hA rfl rfl rfl (d_assign rfl) ?_
 intro a hA
 refine seq_end ?_
 refine hK1 _ _ ?_
 refine wp_seq_k (fun K4 hK4 => ?_)
 refine wp_seq_k (fun K5 hK5 => ?_)
 refine wp_region_lit ?_
 refine seq_do (v := .pointer (some ⟨g2, 3, none⟩)) hA rfl rfl rfl (d_field SmJ_fld_26_1 rfl rfl) ?_
 intro a hA
 refine seq_do (v := .pointer (some ⟨g2, 4, none⟩)) hA rfl rfl rfl (d_field SmJ_fld_24_1 rfl rfl) ?_
 intro a hA
 refine seq_do hA rfl rfl rfl (d_load1 hS SmJ_is1_22 rfl 0 rfl rfl) ?_
 intro a hA
 refine seq_do (v := .int .i64 (((p.t2.length : Nat) : Int))) hA rfl rfl rfl (d_len Tryz.underlying22 rfl) ?_
 intro a hA
 rcases Bool.eq_false_or_eq_true (decide (0 < ((p.t2.length : Nat) : Int))) with hb6 | hb6
 · have hb6' := of_decide_eq_true hb6
   refine seq_do (v := .bool true) hA rfl rfl rfl (d_bin rfl rfl (fun w => (bin_gtr w).trans (by rw [hb6]))) ?_
   intro a hA
   refine seq_do hA rfl rfl rfl (d_move rfl) ?_
   intro a hA
   refine seq_do hA rfl rfl rfl (d_move rfl) ?_
   intro a hA
   rcases Bool.eq_false_or_eq_true (decide (-1024 ≤ n)) with hb7 | hb7
   · have hb7' := of_decide_eq_true hb7
     refine seq_do (v := .bool true) hA rfl rfl rfl (d_bin rfl rfl (fun w => (bin_geq w).trans (by rw [hb7]))) ?_
     intro a hA
     refine seq_do (v := .bool true) hA rfl rfl rfl (d_pick rfl rfl rfl rfl) ?_
     intro a hA
     refine seq_do hA rfl rfl rfl (d_move rfl) ?_
     intro a hA
     refine seq_do hA rfl rfl rfl (d_move rfl) ?_
     intro a hA
     rcases Bool.eq_false_or_eq_true (decide (n ≤ 1024)) with hb8 | hb8
     · have hb8' := of_decide_eq_true hb8
       refine seq_do (v := .bool true) hA rfl rfl rfl (d_bin rfl rfl (fun w => (bin_leq w).trans (by rw [hb8]))) ?_
       intro a hA
       refine seq_do (v := .bool true) hA rfl rfl rfl (d_pick rfl rfl rfl rfl) ?_
       intro a hA
       refine seq_end ?_
       refine hK5 _ _ ?_
       refine wp_cond_true (hA.ev rfl) ?_
       refine wp_seq_k (fun K9 hK9 => ?_)
       refine wp_region_lit ?_
       refine seq_do hA rfl rfl rfl (d_move rfl) ?_
       intro a hA
       refine seq_do (v := .int .i64 (n.tmod 40)) hA rfl rfl rfl (d_bin rfl rfl (ar_rem (by decide) rfl)) ?_
       intro a hA
       refine seq_do hA rfl rfl rfl (d_assign rfl) ?_
       intro a hA
       refine seq_end ?_
       refine hK9 _ _ ?_
       refine wp_seq_k (fun K10 hK10 => ?_)
       refine wp_region_lit ?_
       refine seq_do (v := .pointer (some ⟨g2, 0, none⟩)) hA rfl rfl rfl (d_field SmJ_fld_26_0 rfl rfl) ?_
       intro a hA
       refine seq_do (v := .pointer (some ⟨g2, 1, none⟩)) hA rfl rfl rfl (d_field SmJ_fld_24_1 rfl rfl) ?_
       intro a hA
       refine seq_do hA rfl rfl rfl (d_load1 hS SmJ_is1_22 rfl 0 rfl rfl) ?_
       intro a hA
       refine seq_do (v := .int .i64 (((p.t1.length : Nat) : Int))) hA rfl rfl rfl (d_len Tryz.underlying22 rfl) ?_
       intro a hA
       refine seq_do (v := .pointer (some ⟨g2, 0, none⟩)) hA rfl rfl rfl (d_field SmJ_fld_26_0 rfl rfl) ?_
       intro a hA
       refine seq_do (v := .pointer (some ⟨g2, 2, none⟩)) hA rfl rfl rfl (d_field SmJ_fld_24_2 rfl rfl) ?_
       intro a hA
       refine seq_do hA rfl rfl rfl (d_load1 hS SmJ_is1_22 rfl 0 rfl rfl) ?_
       intro a hA
       refine seq_do (v := .int .i64 (((p.q1.length : Nat) : Int))) hA rfl rfl rfl (d_len Tryz.underlying22 rfl) ?_
       intro a hA
       refine seq_do (v := .int .i64 (IntKind.i64.wrap (((p.t1.length : Nat) : Int) + ((p.q1.length : Nat) : Int)))) hA rfl rfl rfl (d_bin rfl rfl (ar_add rfl)) ?_
       intro a hA
       refine seq_do (v := .pointer (some ⟨g2, 3, none⟩)) hA rfl rfl rfl (d_field SmJ_fld_26_1 rfl rfl) ?_
       intro a hA
       refine seq_do (v := .pointer (some ⟨g2, 4, none⟩)) hA rfl rfl rfl (d_field SmJ_fld_24_1 rfl rfl) ?_
       intro a hA
       refine seq_do hA rfl rfl rfl (d_load1 hS SmJ_is1_22 rfl 0 rfl rfl) ?_
       intro a hA
       refine seq_do (v := .int .i64 (((p.t2.length : Nat) : Int))) hA rfl rfl rfl (d_len Tryz.underlying22 rfl) ?_
       intro a hA
       refine seq_do (v := .int .i64 (IntKind.i64.wrap (IntKind.i64.wrap (((p.t1.length : Nat) : Int) + ((p.q1.length : Nat) : Int)) + ((p.t2.length : Nat) : Int)))) hA rfl rfl rfl (d_bin rfl rfl (ar_add rfl)) ?_
       intro a hA
       refine seq_do (v := .pointer (some ⟨g2, 3, none⟩)) hA rfl rfl rfl (d_field SmJ_fld_26_1 rfl rfl) ?_
       intro a hA
       refine seq_do (v := .pointer (some ⟨g2, 5, none⟩)) hA rfl rfl rfl (d_field SmJ_fld_24_2 rfl rfl) ?_
       intro a hA
       refine seq_do hA rfl rfl rfl (d_load1 hS SmJ_is1_22 rfl 0 rfl rfl) ?_
       intro a hA
       refine seq_do (v := .int .i64 (((p.q2.length : Nat) : Int))) hA rfl rfl rfl (d_len Tryz.underlying22 rfl) ?_
       intro a hA
       refine seq_do (v := .int .i64 (IntKind.i64.wrap (IntKind.i64.wrap (IntKind.i64.wrap (((p.t1.length : Nat) : Int) + ((p.q1.length : Nat) : Int)) + ((p.t2.length : Nat) : Int)) + ((p.q2.length : Nat) : Int)))) hA rfl rfl rfl (d_bin rfl rfl (ar_add rfl)) ?_
       intro a hA
       rcases Bool.eq_false_or_eq_true (decide (10 < IntKind.i64.wrap (IntKind.i64.wrap (IntKind.i64.wrap (((p.t1.length : Nat) : Int) + ((p.q1.length : Nat) : Int)) + ((p.t2.length : Nat) : Int)) + ((p.q2.length : Nat) : Int)))) with hb11 | hb11
       · have hb11' := of_decide_eq_true hb11
         refine seq_do (v := .bool true) hA rfl rfl rfl (d_bin rfl rfl (fun w => (bin_gtr w).trans (by rw [hb11]))) ?_
         intro a hA
         refine seq_end ?_
         refine hK10 _ _ ?_
         refine wp_cond_true (hA.ev rfl) ?_
         refine wp_region_lit ?_
         refine seq_do hA rfl rfl rfl (d_move rfl) ?_
         intro a hA
         refine seq_do (v := .int .i64 ((n.tmod 40).tmod 8)) hA rfl rfl rfl (d_bin rfl rfl (ar_rem (by decide) rfl)) ?_
         intro a hA
         refine seq_do hA rfl rfl rfl (d_assign rfl) ?_
         intro a hA
         refine seq_end ?_
         refine hK4 _ _ ?_
         refine wp_seq_k (fun K12 hK12 => ?_)
         refine wp_region_lit ?_
         refine seq_do hA rfl rfl rfl (d_loadS hS SmJ_isS_26 rfl 0 rfl (cs := [.bool p.b1, .slice a1 p.t1.length ac1, .slice a2 p.q1.length ac2, .bool p.b2, .slice a3 p.t2.length ac3, .slice a4 p.q2.length ac4]) rfl rfl) ?_
         intro a hA
         refine seq_do hA rfl rfl rfl (d_move rfl) ?_
         intro a hA
         refine seq_call hA rfl rfl rfl (enters_func  rfl rfl (fun w => by kernel_rfl)) (exptQ_as (show Nm _ p a1 ac1 a2 ac2 a3 ac3 a4 ac4 from ⟨⟨(hS.rd 3 rfl), ha.s1.nil, ha.s1.cap⟩, ⟨(hS.rd 2 rfl), ha.s2.nil, ha.s2.cap⟩, ⟨(hS.rd 1 rfl), ha.s3.nil, ha.s3.cap⟩, ⟨(hS.rd 0 rfl), ha.s4.nil, ha.s4.cap⟩⟩) hl (eZ _)) ?_
         rintro _ w16 ⟨p13_1, p13_c1, p13_2, p13_c2, p13_3, p13_c3, p13_4, p13_c4, rfl, hn14, hb15⟩
         replace hS := hS.call hb15
         replace hS := hS.addR hn14.s1.rd
         replace hS := hS.addR hn14.s2.rd
         replace hS := hS.addR hn14.s3.rd
         replace hS := hS.addR hn14.s4.rd
         refine ⟨_, rfl, ?_⟩
         intro a hA
         refine seq_do hA rfl rfl rfl (d_move rfl) ?_
         intro a hA
         refine seq_do (v := .agg #[.bool ((Z ((n.tmod 40).tmod 8)).1.b1), .slice p13_1 (((Z ((n.tmod 40).tmod 8)).1.t1).length) p13_c1, .slice p13_2 (((Z ((n.tmod 40).tmod 8)).1.q1).length) p13_c2, .bool ((Z ((n.tmod 40).tmod 8)).1.b2), .slice p13_3 (((Z ((n.tmod 40).tmod 8)).1.t2).length) p13_c3, .slice p13_4 (((Z ((n.tmod 40).tmod 8)).1.q2).length) p13_c4]) hA rfl rfl rfl (d_extract (vs := [.agg #[.bool ((Z ((n.tmod 40).tmod 8)).1.b1), .slice p13_1 (((Z ((n.tmod 40).tmod 8)).1.t1).length) p13_c1, .slice p13_2 (((Z ((n.tmod 40).tmod 8)).1.q1).length) p13_c2, .bool ((Z ((n.tmod 40).tmod 8)).1.b2), .slice p13_3 (((Z ((n.tmod 40).tmod 8)).1.t2).length) p13_c3, .slice p13_4 (((Z ((n.tmod 40).tmod 8)).1.q2).length) p13_c4], .int .i64 ((Z ((n.tmod 40).tmod 8)).2)]) rfl rfl) ?_
         intro a hA
         refine seq_do (v := .int .i64 ((Z ((n.tmod 40).tmod 8)).2)) hA rfl rfl rfl (d_extract (vs := [.agg #[.bool ((Z ((n.tmod 40).tmod 8)).1.b1), .slice p13_1 (((Z ((n.tmod 40).tmod 8)).1.t1).length) p13_c1, .slice p13_2 (((Z ((n.tmod 40).tmod 8)).1.q1).length) p13_c2, .bool ((Z ((n.tmod 40).tmod 8)).1.b2), .slice p13_3 (((Z ((n.tmod 40).tmod 8)).1.t2).length) p13_c3, .slice p13_4 (((Z ((n.tmod 40).tmod 8)).1.q2).length) p13_c4], .int .i64 ((Z ((n.tmod 40).tmod 8)).2)]) rfl rfl) ?_
         intro a hA
         refine seq_new (vs := [.bool false, .slice none 0 0, .slice none 0 0, .bool false, .slice none 0 0, .slice none 0 0]) (t := 26) hA hS rfl rfl rfl (fun g => .pointer (some ⟨g, 0, none⟩)) (d_alloc (z := .agg #[.bool false, .slice none 0 0, .slice none 0 0, .bool false, .slice none 0 0, .slice none 0 0]) (by kernel_rfl) rfl) rfl ?_
         intro g17 w18 hS a hA
         refine seq_store (us := [.bool ((Z ((n.tmod 40).tmod 8)).1.b1), .slice p13_1 (((Z ((n.tmod 40).tmod 8)).1.t1).length) p13_c1, .slice p13_2 (((Z ((n.tmod 40).tmod 8)).1.q1).length) p13_c2, .bool ((Z ((n.tmod 40).tmod 8)).1.b2), .slice p13_3 (((Z ((n.tmod 40).tmod 8)).1.t2).length) p13_c3, .slice p13_4 (((Z ((n.tmod 40).tmod 8)).1.q2).length) p13_c4]) hA hS rfl rfl (sets_store rfl rfl rfl (by kernel_rfl) hS 0 rfl rfl rfl) 0 rfl rfl rfl rfl ?_
         intro w19 hS
         refine seq_do hA rfl rfl rfl (d_assign rfl) ?_
         intro a hA
         refine seq_end ?_
         refine hK12 _ _ ?_
         refine wp_seq_k (fun K20 hK20 => ?_)
         refine wp_region_lit ?_
         refine seq_do hA rfl rfl rfl (d_loadS hS SmJ_isS_26 rfl 1 rfl (cs := [.bool p.b1, .slice a1 p.t1.length ac1, .slice a2 p.q1.length ac2, .bool p.b2, .slice a3 p.t2.length ac3, .slice a4 p.q2.length ac4]) rfl rfl) ?_
         intro a hA
         refine seq_do hA rfl rfl rfl (d_move rfl) ?_
         intro a hA
         refine seq_call hA rfl rfl rfl (enters_func  rfl rfl (fun w => by kernel_rfl)) (rexptQ_as (show Nm _ p a1 ac1 a2 ac2 a3 ac3 a4 ac4 from ⟨⟨(hS.rd 7 rfl), ha.s1.nil, ha.s1.cap⟩, ⟨(hS.rd 6 rfl), ha.s2.nil, ha.s2.cap⟩, ⟨(hS.rd 5 rfl), ha.s3.nil, ha.s3.cap⟩, ⟨(hS.rd 4 rfl), ha.s4.nil, ha.s4.cap⟩⟩) hl (eZ _)) ?_
         rintro _ w24 ⟨p21_1, p21_c1, p21_2, p21_c2, p21_3, p21_c3, p21_4, p21_c4, rfl, hn22, hb23⟩
         replace hS := hS.call hb23
         replace hS := hS.addR hn22.s1.rd
         replace hS := hS.addR hn22.s2.rd
         replace hS := hS.addR hn22.s3.rd
         replace hS := hS.addR hn22.s4.rd
         refine ⟨_, rfl, ?_⟩
         intro a hA
         refine seq_do hA rfl rfl rfl (d_move rfl) ?_
         intro a hA
         refine seq_do (v := .agg #[.bool ((Z ((n.tmod 40).tmod 8)).1.b1), .slice p21_1 (((Z ((n.tmod 40).tmod 8)).1.t1).length) p21_c1, .slice p21_2 (((Z ((n.tmod 40).tmod 8)).1.q1).length) p21_c2, .bool ((Z ((n.tmod 40).tmod 8)).1.b2), .slice p21_3 (((Z ((n.tmod 40).tmod 8)).1.t2).length) p21_c3, .slice p21_4 (((Z ((n.tmod 40).tmod 8)).1.q2).length) p21_c4]) hA rfl rfl rfl (d_extract (vs := [.agg #[.bool ((Z ((n.tmod 40).tmod 8)).1.b1), .slice p21_1 (((Z ((n.tmod 40).tmod 8)).1.t1).length) p21_c1, .slice p21_2 (((Z ((n.tmod 40).tmod 8)).1.q1).length) p21_c2, .bool ((Z ((n.tmod 40).tmod 8)).1.b2), .slice p21_3 (((Z ((n.tmod 40).tmod 8)).1.t2).length) p21_c3, .slice p21_4 (((Z ((n.tmod 40).tmod 8)).1.q2).length) p21_c4], .int .i64 ((Z ((n.tmod 40).tmod 8)).2)]) rfl rfl) ?_
         intro a hA
         refine seq_do (v := .int .i64 ((Z ((n.tmod 40).tmod 8)).2)) hA rfl rfl rfl (d_extract (vs := [.agg #[.bool ((Z ((n.tmod 40).tmod 8)).1.b1), .slice p21_1 (((Z ((n.tmod 40).tmod 8)).1.t1).length) p21_c1, .slice p21_2 (((Z ((n.tmod 40).tmod 8)).1.q1).length) p21_c2, .bool ((Z ((n.tmod 40).tmod 8)).1.b2), .slice p21_3 (((Z ((n.tmod 40).tmod 8)).1.t2).length) p21_c3, .slice p21_4 (((Z ((n.tmod 40).tmod 8)).1.q2).length) p21_c4], .int .i64 ((Z ((n.tmod 40).tmod 8)).2)]) rfl rfl) ?_
         intro a hA
         refine seq_new (vs := [.bool false, .slice none 0 0, .slice none 0 0, .bool false, .slice none 0 0, .slice none 0 0]) (t := 26) hA hS rfl rfl rfl (fun g => .pointer (some ⟨g, 0, none⟩)) (d_alloc (z := .agg #[.bool false, .slice none 0 0, .slice none 0 0, .bool false, .slice none 0 0, .slice none 0 0]) (by kernel_rfl) rfl) rfl ?_
         intro g25 w26 hS a hA
         refine seq_store (us := [.bool ((Z ((n.tmod 40).tmod 8)).1.b1), .slice p21_1 (((Z ((n.tmod 40).tmod 8)).1.t1).length) p21_c1, .slice p21_2 (((Z ((n.tmod 40).tmod 8)).1.q1).length) p21_c2, .bool ((Z ((n.tmod 40).tmod 8)).1.b2), .slice p21_3 (((Z ((n.tmod 40).tmod 8)).1.t2).length) p21_c3, .slice p21_4 (((Z ((n.tmod 40).tmod 8)).1.q2).length) p21_c4]) hA hS rfl rfl (sets_store rfl rfl rfl (by kernel_rfl) hS 0 rfl rfl rfl) 0 rfl rfl rfl rfl ?_
         intro w27 hS
         refine seq_do hA rfl rfl rfl (d_assign rfl) ?_
         intro a hA
         refine seq_end ?_
         refine hK20 _ _ ?_
         refine wp_seq_k (fun K28 hK28 => ?_)
         refine wp_region_lit ?_
         refine seq_call hA rfl rfl rfl (enters_func  rfl rfl (fun w => by kernel_rfl)) (awake3_any) ?_
         rintro _ w30 ⟨rfl, hb29⟩
         replace hS := hS.call hb29
         refine ⟨_, rfl, ?_⟩
         intro a hA
         refine seq_do hA rfl rfl rfl (d_move rfl) ?_
         intro a hA
         refine seq_do hA rfl rfl rfl (d_loadS hS SmJ_isS_26 rfl 1 rfl (cs := [.bool ((Z ((n.tmod 40).tmod 8)).1.b1), .slice p13_1 (((Z ((n.tmod 40).tmod 8)).1.t1).length) p13_c1, .slice p13_2 (((Z ((n.tmod 40).tmod 8)).1.q1).length) p13_c2, .bool ((Z ((n.tmod 40).tmod 8)).1.b2), .slice p13_3 (((Z ((n.tmod 40).tmod 8)).1.t2).length) p13_c3, .slice p13_4 (((Z ((n.tmod 40).tmod 8)).1.q2).length) p13_c4]) rfl rfl) ?_
         intro a hA
         refine seq_do hA rfl rfl rfl (d_loadS hS SmJ_isS_26 rfl 0 rfl (cs := [.bool ((Z ((n.tmod 40).tmod 8)).1.b1), .slice p21_1 (((Z ((n.tmod 40).tmod 8)).1.t1).length) p21_c1, .slice p21_2 (((Z ((n.tmod 40).tmod 8)).1.q1).length) p21_c2, .bool ((Z ((n.tmod 40).tmod 8)).1.b2), .slice p21_3 (((Z ((n.tmod 40).tmod 8)).1.t2).length) p21_c3, .slice p21_4 (((Z ((n.tmod 40).tmod 8)).1.q2).length) p21_c4]) rfl rfl) ?_
         intro a hA
         refine seq_call hA rfl rfl rfl (enters_func  rfl rfl (fun w => by kernel_rfl)) (alike_any (show Nm _ (Z ((n.tmod 40).tmod 8)).1 p13_1 p13_c1 p13_2 p13_c2 p13_3 p13_c3 p13_4 p13_c4 from ⟨⟨(hS.rd 7 rfl), hn14.s1.nil, hn14.s1.cap⟩, ⟨(hS.rd 6 rfl), hn14.s2.nil, hn14.s2.cap⟩, ⟨(hS.rd 5 rfl), hn14.s3.nil, hn14.s3.cap⟩, ⟨(hS.rd 4 rfl), hn14.s4.nil, hn14.s4.cap⟩⟩) (lZ _) ⟨⟨(hS.rd 3 rfl), hn22.s1.nil, hn22.s1.cap⟩, ⟨(hS.rd 2 rfl), hn22.s2.nil, hn22.s2.cap⟩, ⟨(hS.rd 1 rfl), hn22.s3.nil, hn22.s3.cap⟩, ⟨(hS.rd 0 rfl), hn22.s4.nil, hn22.s4.cap⟩⟩) ?_
         rintro _ w32 ⟨rfl, hb31⟩
         replace hS := hS.call hb31
         refine ⟨_, rfl, ?_⟩
         intro a hA
         refine seq_do (v := .bool true) hA rfl rfl rfl (d_pick rfl rfl rfl rfl) ?_
         intro a hA
         refine seq_do hA rfl rfl rfl (d_move rfl) ?_
         intro a hA
         refine seq_do hA rfl rfl rfl (d_move rfl) ?_
         intro a hA
         refine seq_do hA rfl rfl rfl (d_move rfl) ?_
         intro a hA
         refine seq_do (v := .bool true) hA rfl rfl rfl (d_bin rfl rfl (fun w => (bin_eql w).trans (by rw [show (((Z ((n.tmod 40).tmod 8)).2 == (Z ((n.tmod 40).tmod 8)).2)) = true from (beq_self_eq_true _)]))) ?_
         intro a hA
         refine seq_do (v := .bool true) hA rfl rfl rfl (d_pick rfl rfl rfl rfl) ?_
         intro a hA
         refine seq_do hA rfl rfl rfl (d_assign rfl) ?_
         intro a hA
         refine seq_end ?_
         refine hK28 _ _ ?_
         refine wp_ret ?_
         refine hret _ _ ?_
         refine ends (v := .bool true) hA rfl (.cons (res_tmp rfl) .nil) rfl ?_
         exact ⟨rfl, hS.bel⟩
       · have hb11' := of_decide_eq_false hb11
         refine seq_do (v := .bool false) hA rfl rfl rfl (d_bin rfl rfl (fun w => (bin_gtr w).trans (by rw [hb11]))) ?_
         intro a hA
         refine seq_end ?_
         refine hK10 _ _ ?_
         refine wp_cond_false (hA.ev rfl) ?_
         refine wp_skip ?_
         refine hK4 _ _ ?_
         refine wp_seq_k (fun K33 hK33 => ?_)
         refine wp_region_lit ?_
         refine seq_do hA rfl rfl rfl (d_loadS hS SmJ_isS_26 rfl 0 rfl (cs := [.bool p.b1, .slice a1 p.t1.length ac1, .slice a2 p.q1.length ac2, .bool p.b2, .slice a3 p.t2.length ac3, .slice a4 p.q2.length ac4]) rfl rfl) ?_
         intro a hA
         refine seq_do hA rfl rfl rfl (d_move rfl) ?_
         intro a hA
         refine seq_call hA rfl rfl rfl (enters_func  rfl rfl (fun w => by kernel_rfl)) (exptQ_as (show Nm _ p a1 ac1 a2 ac2 a3 ac3 a4 ac4 from ⟨⟨(hS.rd 3 rfl), ha.s1.nil, ha.s1.cap⟩, ⟨(hS.rd 2 rfl), ha.s2.nil, ha.s2.cap⟩, ⟨(hS.rd 1 rfl), ha.s3.nil, ha.s3.cap⟩, ⟨(hS.rd 0 rfl), ha.s4.nil, ha.s4.cap⟩⟩) hl (eZ _)) ?_
         rintro _ w37 ⟨p34_1, p34_c1, p34_2, p34_c2, p34_3, p34_c3, p34_4, p34_c4, rfl, hn35, hb36⟩
         replace hS := hS.call hb36
         replace hS := hS.addR hn35.s1.rd
         replace hS := hS.addR hn35.s2.rd
         replace hS := hS.addR hn35.s3.rd
         replace hS := hS.addR hn35.s4.rd
         refine ⟨_, rfl, ?_⟩
         intro a hA
         refine seq_do hA rfl rfl rfl (d_move rfl) ?_
         intro a hA
         refine seq_do (v := .agg #[.bool ((Z (n.tmod 40)).1.b1), .slice p34_1 (((Z (n.tmod 40)).1.t1).length) p34_c1, .slice p34_2 (((Z (n.tmod 40)).1.q1).length) p34_c2, .bool ((Z (n.tmod 40)).1.b2), .slice p34_3 (((Z (n.tmod 40)).1.t2).length) p34_c3, .slice p34_4 (((Z (n.tmod 40)).1.q2).length) p34_c4]) hA rfl rfl rfl (d_extract (vs := [.agg #[.bool ((Z (n.tmod 40)).1.b1), .slice p34_1 (((Z (n.tmod 40)).1.t1).length) p34_c1, .slice p34_2 (((Z (n.tmod 40)).1.q1).length) p34_c2, .bool ((Z (n.tmod 40)).1.b2), .slice p34_3 (((Z (n.tmod 40)).1.t2).length) p34_c3, .slice p34_4 (((Z (n.tmod 40)).1.q2).length) p34_c4], .int .i64 ((Z (n.tmod 40)).2)]) rfl rfl) ?_
         intro a hA
         refine seq_do (v := .int .i64 ((Z (n.tmod 40)).2)) hA rfl rfl rfl (d_extract (vs := [.agg #[.bool ((Z (n.tmod 40)).1.b1), .slice p34_1 (((Z (n.tmod 40)).1.t1).length) p34_c1, .slice p34_2 (((Z (n.tmod 40)).1.q1).length) p34_c2, .bool ((Z (n.tmod 40)).1.b2), .slice p34_3 (((Z (n.tmod 40)).1.t2).length) p34_c3, .slice p34_4 (((Z (n.tmod 40)).1.q2).length) p34_c4], .int .i64 ((Z (n.tmod 40)).2)]) rfl rfl) ?_
         intro a hA
         refine seq_new (vs := [.bool false, .slice none 0 0, .slice none 0 0, .bool false, .slice none 0 0, .slice none 0 0]) (t := 26) hA hS rfl rfl rfl (fun g => .pointer (some ⟨g, 0, none⟩)) (d_alloc (z := .agg #[.bool false, .slice none 0 0, .slice none 0 0, .bool false, .slice none 0 0, .slice none 0 0]) (by kernel_rfl) rfl) rfl ?_
         intro g38 w39 hS a hA
         refine seq_store (us := [.bool ((Z (n.tmod 40)).1.b1), .slice p34_1 (((Z (n.tmod 40)).1.t1).length) p34_c1, .slice p34_2 (((Z (n.tmod 40)).1.q1).length) p34_c2, .bool ((Z (n.tmod 40)).1.b2), .slice p34_3 (((Z (n.tmod 40)).1.t2).length) p34_c3, .slice p34_4 (((Z (n.tmod 40)).1.q2).length) p34_c4]) hA hS rfl rfl (sets_store rfl rfl rfl (by kernel_rfl) hS 0 rfl rfl rfl) 0 rfl rfl rfl rfl ?_
         intro w40 hS
         refine seq_do hA rfl rfl rfl (d_assign rfl) ?_
         intro a hA
         refine seq_end ?_
         refine hK33 _ _ ?_
         refine wp_seq_k (fun K41 hK41 => ?_)
         refine wp_region_lit ?_
         refine seq_do hA rfl rfl rfl (d_loadS hS SmJ_isS_26 rfl 1 rfl (cs := [.bool p.b1, .slice a1 p.t1.length ac1, .slice a2 p.q1.length ac2, .bool p.b2, .slice a3 p.t2.length ac3, .slice a4 p.q2.length ac4]) rfl rfl) ?_
         intro a hA
         refine seq_do hA rfl rfl rfl (d_move rfl) ?_
         intro a hA
         refine seq_call hA rfl rfl rfl (enters_func  rfl rfl (fun w => by kernel_rfl)) (rexptQ_as (show Nm _ p a1 ac1 a2 ac2 a3 ac3 a4 ac4 from ⟨⟨(hS.rd 7 rfl), ha.s1.nil, ha.s1.cap⟩, ⟨(hS.rd 6 rfl), ha.s2.nil, ha.s2.cap⟩, ⟨(hS.rd 5 rfl), ha.s3.nil, ha.s3.cap⟩, ⟨(hS.rd 4 rfl), ha.s4.nil, ha.s4.cap⟩⟩) hl (eZ _)) ?_
         rintro _ w45 ⟨p42_1, p42_c1, p42_2, p42_c2, p42_3, p42_c3, p42_4, p42_c4, rfl, hn43, hb44⟩
         replace hS := hS.call hb44
         replace hS := hS.addR hn43.s1.rd
         replace hS := hS.addR hn43.s2.rd
         replace hS := hS.addR hn43.s3.rd
         replace hS := hS.addR hn43.s4.rd
         refine ⟨_, rfl, ?_⟩
         intro a hA
         refine seq_do hA rfl rfl rfl (d_move rfl) ?_
         intro a hA
         refine seq_do (v := .agg #[.bool ((Z (n.tmod 40)).1.b1), .slice p42_1 (((Z (n.tmod 40)).1.t1).length) p42_c1, .slice p42_2 (((Z (n.tmod 40)).1.q1).length) p42_c2, .bool ((Z (n.tmod 40)).1.b2), .slice p42_3 (((Z (n.tmod 40)).1.t2).length) p42_c3, .slice p42_4 (((Z (n.tmod 40)).1.q2).length) p42_c4]) hA rfl rfl rfl (d_extract (vs := [.agg #[.bool ((Z (n.tmod 40)).1.b1), .slice p42_1 (((Z (n.tmod 40)).1.t1).length) p42_c1, .slice p42_2 (((Z (n.tmod 40)).1.q1).length) p42_c2, .bool ((Z (n.tmod 40)).1.b2), .slice p42_3 (((Z (n.tmod 40)).1.t2).length) p42_c3, .slice p42_4 (((Z (n.tmod 40)).1.q2).length) p42_c4], .int .i64 ((Z (n.tmod 40)).2)]) rfl rfl) ?_
         intro a hA
         refine seq_do (v := .int .i64 ((Z (n.tmod 40)).2)) hA rfl rfl rfl (d_extract (vs := [.agg #[.bool ((Z (n.tmod 40)).1.b1), .slice p42_1 (((Z (n.tmod 40)).1.t1).length) p42_c1, .slice p42_2 (((Z (n.tmod 40)).1.q1).length) p42_c2, .bool ((Z (n.tmod 40)).1.b2), .slice p42_3 (((Z (n.tmod 40)).1.t2).length) p42_c3, .slice p42_4 (((Z (n.tmod 40)).1.q2).length) p42_c4], .int .i64 ((Z (n.tmod 40)).2)]) rfl rfl) ?_
         intro a hA
         refine seq_new (vs := [.bool false, .slice none 0 0, .slice none 0 0, .bool false, .slice none 0 0, .slice none 0 0]) (t := 26) hA hS rfl rfl rfl (fun g => .pointer (some ⟨g, 0, none⟩)) (d_alloc (z := .agg #[.bool false, .slice none 0 0, .slice none 0 0, .bool false, .slice none 0 0, .slice none 0 0]) (by kernel_rfl) rfl) rfl ?_
         intro g46 w47 hS a hA
         refine seq_store (us := [.bool ((Z (n.tmod 40)).1.b1), .slice p42_1 (((Z (n.tmod 40)).1.t1).length) p42_c1, .slice p42_2 (((Z (n.tmod 40)).1.q1).length) p42_c2, .bool ((Z (n.tmod 40)).1.b2), .slice p42_3 (((Z (n.tmod 40)).1.t2).length) p42_c3, .slice p42_4 (((Z (n.tmod 40)).1.q2).length) p42_c4]) hA hS rfl rfl (sets_store rfl rfl rfl (by kernel_rfl) hS 0 rfl rfl rfl) 0 rfl rfl rfl rfl ?_
         intro w48 hS
         refine seq_do hA rfl rfl rfl (d_assign rfl) ?_
         intro a hA
         refine seq_end ?_
         refine hK41 _ _ ?_
         refine wp_seq_k (fun K49 hK49 => ?_)
         refine wp_region_lit ?_
         refine seq_call hA rfl rfl rfl (enters_func  rfl rfl (fun w => by kernel_rfl)) (awake3_any) ?_
         rintro _ w51 ⟨rfl, hb50⟩
         replace hS := hS.call hb50
         refine ⟨_, rfl, ?_⟩
         intro a hA
         refine seq_do hA rfl rfl rfl (d_move rfl) ?_
         intro a hA
         refine seq_do hA rfl rfl rfl (d_loadS hS SmJ_isS_26 rfl 1 rfl (cs := [.bool ((Z (n.tmod 40)).1.b1), .slice p34_1 (((Z (n.tmod 40)).1.t1).length) p34_c1, .slice p34_2 (((Z (n.tmod 40)).1.q1).length) p34_c2, .bool ((Z (n.tmod 40)).1.b2), .slice p34_3 (((Z (n.tmod 40)).1.t2).length) p34_c3, .slice p34_4 (((Z (n.tmod 40)).1.q2).length) p34_c4]) rfl rfl) ?_
         intro a hA
         refine seq_do hA rfl rfl rfl (d_loadS hS SmJ_isS_26 rfl 0 rfl (cs := [.bool ((Z (n.tmod 40)).1.b1), .slice p42_1 (((Z (n.tmod 40)).1.t1).length) p42_c1, .slice p42_2 (((Z (n.tmod 40)).1.q1).length) p42_c2, .bool ((Z (n.tmod 40)).1.b2), .slice p42_3 (((Z (n.tmod 40)).1.t2).length) p42_c3, .slice p42_4 (((Z (n.tmod 40)).1.q2).length) p42_c4]) rfl rfl) ?_
         intro a hA
         refine seq_call hA rfl rfl rfl (enters_func  rfl rfl (fun w => by kernel_rfl)) (alike_any (show Nm _ (Z (n.tmod 40)).1 p34_1 p34_c1 p34_2 p34_c2 p34_3 p34_c3 p34_4 p34_c4 from ⟨⟨(hS.rd 7 rfl), hn35.s1.nil, hn35.s1.cap⟩, ⟨(hS.rd 6 rfl), hn35.s2.nil, hn35.s2.cap⟩, ⟨(hS.rd 5 rfl), hn35.s3.nil, hn35.s3.cap⟩, ⟨(hS.rd 4 rfl), hn35.s4.nil, hn35.s4.cap⟩⟩) (lZ _) ⟨⟨(hS.rd 3 rfl), hn43.s1.nil, hn43.s1.cap⟩, ⟨(hS.rd 2 rfl), hn43.s2.nil, hn43.s2.cap⟩, ⟨(hS.rd 1 rfl), hn43.s3.nil, hn43.s3.cap⟩, ⟨(hS.rd 0 rfl), hn43.s4.nil, hn43.s4.cap⟩⟩) ?_
         rintro _ w53 ⟨rfl, hb52⟩
         replace hS := hS.call hb52
         refine ⟨_, rfl, ?_⟩
         intro a hA
         refine seq_do (v := .bool true) hA rfl rfl rfl (d_pick rfl rfl rfl rfl) ?_
         intro a hA
         refine seq_do hA rfl rfl rfl (d_move rfl) ?_
         intro a hA
         refine seq_do hA rfl rfl rfl (d_move rfl) ?_
         intro a hA
         refine seq_do hA rfl rfl rfl (d_move rfl) ?_
         intro a hA
         refine seq_do (v := .bool true) hA rfl rfl rfl (d_bin rfl rfl (fun w => (bin_eql w).trans (by rw [show (((Z (n.tmod 40)).2 == (Z (n.tmod 40)).2)) = true from (beq_self_eq_true _)]))) ?_
         intro a hA
         refine seq_do (v := .bool true) hA rfl rfl rfl (d_pick rfl rfl rfl rfl) ?_
         intro a hA
         refine seq_do hA rfl rfl rfl (d_assign rfl) ?_
         intro a hA
         refine seq_end ?_
         refine hK49 _ _ ?_
         refine wp_ret ?_
         refine hret _ _ ?_
         refine ends (v := .bool true) hA rfl (.cons (res_tmp rfl) .nil) rfl ?_
         exact ⟨rfl, hS.bel⟩
     · have hb8' := of_decide_eq_false hb8
       refine seq_do (v := .bool false) hA rfl rfl rfl (d_bin rfl rfl (fun w => (bin_leq w).trans (by rw [hb8]))) ?_
       intro a hA
       refine seq_do (v := .bool false) hA rfl rfl rfl (d_pick rfl rfl rfl rfl) ?_
       intro a hA
       refine seq_end ?_
       refine hK5 _ _ ?_
       refine wp_cond_false (hA.ev rfl) ?_
       refine wp_skip ?_
       refine hK4 _ _ ?_
       refine wp_seq_k (fun K54 hK54 => ?_)
       refine wp_region_lit ?_
       refine seq_do hA rfl rfl rfl (d_loadS hS SmJ_isS_26 rfl 0 rfl (cs := [.bool p.b1, .slice a1 p.t1.length ac1, .slice a2 p.q1.length ac2, .bool p.b2, .slice a3 p.t2.length ac3, .slice a4 p.q2.length ac4]) rfl rfl) ?_
       intro a hA
       refine seq_do hA rfl rfl rfl (d_move rfl) ?_
       intro a hA
       refine seq_call hA rfl rfl rfl (enters_func  rfl rfl (fun w => by kernel_rfl)) (exptQ_as (show Nm _ p a1 ac1 a2 ac2 a3 ac3 a4 ac4 from ⟨⟨(hS.rd 3 rfl), ha.s1.nil, ha.s1.cap⟩, ⟨(hS.rd 2 rfl), ha.s2.nil, ha.s2.cap⟩, ⟨(hS.rd 1 rfl), ha.s3.nil, ha.s3.cap⟩, ⟨(hS.rd 0 rfl), ha.s4.nil, ha.s4.cap⟩⟩) hl (eZ _)) ?_
       rintro _ w58 ⟨p55_1, p55_c1, p55_2, p55_c2, p55_3, p55_c3, p55_4, p55_c4, rfl, hn56, hb57⟩
       replace hS := hS.call hb57
       replace hS := hS.addR hn56.s1.rd
       replace hS := hS.addR hn56.s2.rd
       replace hS := hS.addR hn56.s3.rd
       replace hS := hS.addR hn56.s4.rd
       refine ⟨_, rfl, ?_⟩
       intro a hA
       refine seq_do hA rfl rfl rfl (d_move rfl) ?_
       intro a hA
       refine seq_do (v := .agg #[.bool ((Z n).1.b1), .slice p55_1 (((Z n).1.t1).length) p55_c1, .slice p55_2 (((Z n).1.q1).length) p55_c2, .bool ((Z n).1.b2), .slice p55_3 (((Z n).1.t2).length) p55_c3, .slice p55_4 (((Z n).1.q2).length) p55_c4]) hA rfl rfl rfl (d_extract (vs := [.agg #[.bool ((Z n).1.b1), .slice p55_1 (((Z n).1.t1).length) p55_c1, .slice p55_2 (((Z n).1.q1).length) p55_c2, .bool ((Z n).1.b2), .slice p55_3 (((Z n).1.t2).length) p55_c3, .slice p55_4 (((Z n).1.q2).length) p55_c4], .int .i64 ((Z n).2)]) rfl rfl) ?_
       intro a hA
       refine seq_do (v := .int .i64 ((Z n).2)) hA rfl rfl rfl (d_extract (vs := [.agg #[.bool ((Z n).1.b1), .slice p55_1 (((Z n).1.t1).length) p55_c1, .slice p55_2 (((Z n).1.q1).length) p55_c2, .bool ((Z n).1.b2), .slice p55_3 (((Z n).1.t2).length) p55_c3, .slice p55_4 (((Z n).1.q2).length) p55_c4], .int .i64 ((Z n).2)]) rfl rfl) ?_
       intro a hA
       refine seq_new (vs := [.bool false, .slice none 0 0, .slice none 0 0, .bool false, .slice none 0 0, .slice none 0 0]) (t := 26) hA hS rfl rfl rfl (fun g => .pointer (some ⟨g, 0, none⟩)) (d_alloc (z := .agg #[.bool false, .slice none 0 0, .slice none 0 0, .bool false, .slice none 0 0, .slice none 0 0]) (by kernel_rfl) rfl) rfl ?_
       intro g59 w60 hS a hA
       refine seq_store (us := [.bool ((Z n).1.b1), .slice p55_1 (((Z n).1.t1).length) p55_c1, .slice p55_2 (((Z n).1.q1).length) p55_c2, .bool ((Z n).1.b2), .slice p55_3 (((Z n).1.t2).length) p55_c3, .slice p55_4 (((Z n).1.q2).length) p55_c4]) hA hS rfl rfl (sets_store rfl rfl rfl (by kernel_rfl) hS 0 rfl rfl rfl) 0 rfl rfl rfl rfl ?_
       intro w61 hS
       refine seq_do hA rfl rfl rfl (d_assign rfl) ?_
       intro a hA
       refine seq_end ?_
       refine hK54 _ _ ?_
       refine wp_seq_k (fun K62 hK62 => ?_)
       refine wp_region_lit ?_
       refine seq_do hA rfl rfl rfl (d_loadS hS SmJ_isS_26 rfl 1 rfl (cs := [.bool p.b1, .slice a1 p.t1.length ac1, .slice a2 p.q1.length ac2, .bool p.b2, .slice a3 p.t2.length ac3, .slice a4 p.q2.length ac4]) rfl rfl) ?_
       intro a hA
       refine seq_do hA rfl rfl rfl (d_move rfl) ?_
       intro a hA
       refine seq_call hA rfl rfl rfl (enters_func  rfl rfl (fun w => by kernel_rfl)) (rexptQ_as (show Nm _ p a1 ac1 a2 ac2 a3 ac3 a4 ac4 from ⟨⟨(hS.rd 7 rfl), ha.s1.nil, ha.s1.cap⟩, ⟨(hS.rd 6 rfl), ha.s2.nil, ha.s2.cap⟩, ⟨(hS.rd 5 rfl), ha.s3.nil, ha.s3.cap⟩, ⟨(hS.rd 4 rfl), ha.s4.nil, ha.s4.cap⟩⟩) hl (eZ _)) ?_
       rintro _ w66 ⟨p63_1, p63_c1, p63_2, p63_c2, p63_3, p63_c3, p63_4, p63_c4, rfl, hn64, hb65⟩
       replace hS := hS.call hb65
       replace hS := hS.addR hn64.s1.rd
       replace hS := hS.addR hn64.s2.rd
       replace hS := hS.addR hn64.s3.rd
       replace hS := hS.addR hn64.s4.rd
       refine ⟨_, rfl, ?_⟩
       intro a hA
       refine seq_do hA rfl rfl rfl (d_move rfl) ?_
       intro a hA
       refine seq_do (v := .agg #[.bool ((Z n).1.b1), .slice p63_1 (((Z n).1.t1).length) p63_c1, .slice p63_2 (((Z n).1.q1).length) p63_c2, .bool ((Z n).1.b2), .slice p63_3 (((Z n).1.t2).length) p63_c3, .slice p63_4 (((Z n).1.q2).length) p63_c4]) hA rfl rfl rfl (d_extract (vs := [.agg #[.bool ((Z n).1.b1), .slice p63_1 (((Z n).1.t1).length) p63_c1, .slice p63_2 (((Z n).1.q1).length) p63_c2, .bool ((Z n).1.b2), .slice p63_3 (((Z n).1.t2).length) p63_c3, .slice p63_4 (((Z n).1.q2).length) p63_c4], .int .i64 ((Z n).2)]) rfl rfl) ?_
       intro a hA
       refine seq_do (v := .int .i64 ((Z n).2)) hA rfl rfl rfl (d_extract (vs := [.agg #[.bool ((Z n).1.b1), .slice p63_1 (((Z n).1.t1).length) p63_c1, .slice p63_2 (((Z n).1.q1).length) p63_c2, .bool ((Z n).1.b2), .slice p63_3 (((Z n).1.t2).length) p63_c3, .slice p63_4 (((Z n).1.q2).length) p63_c4], .int .i64 ((Z n).2)]) rfl rfl) ?_
       intro a hA
       refine seq_new (vs := [.bool false, .slice none 0 0, .slice none 0 0, .bool false, .slice none 0 0, .slice none 0 0]) (t := 26) hA hS rfl rfl rfl (fun g => .pointer (some ⟨g, 0, none⟩)) (d_alloc (z := .agg #[.bool false, .slice none 0 0, .slice none 0 0, .bool false, .slice none 0 0, .slice none 0 0]) (by kernel_rfl) rfl) rfl ?_
       intro g67 w68 hS a hA
       refine seq_store (us := [.bool ((Z n).1.b1), .slice p63_1 (((Z n).1.t1).length) p63_c1, .slice p63_2 (((Z n).1.q1).length) p63_c2, .bool ((Z n).1.b2), .slice p63_3 (((Z n).1.t2).length) p63_c3, .slice p63_4 (((Z n).1.q2).length) p63_c4]) hA hS rfl rfl (sets_store rfl rfl rfl (by kernel_rfl) hS 0 rfl rfl rfl) 0 rfl rfl rfl rfl ?_
       intro w69 hS
       refine seq_do hA rfl rfl rfl (d_assign rfl) ?_
       intro a hA
       refine seq_end ?_
       refine hK62 _ _ ?_
       refine wp_seq_k (fun K70 hK70 => ?_)
       refine wp_region_lit ?_
       refine seq_call hA rfl rfl rfl (enters_func  rfl rfl (fun w => by kernel_rfl)) (awake3_any) ?_
       rintro _ w72 ⟨rfl, hb71⟩
       replace hS := hS.call hb71
       refine ⟨_, rfl, ?_⟩
       intro a hA
       refine seq_do hA rfl rfl rfl (d_move rfl) ?_
       intro a hA
       refine seq_do hA rfl rfl rfl (d_loadS hS SmJ_isS_26 rfl 1 rfl (cs := [.bool ((Z n).1.b1), .slice p55_1 (((Z n).1.t1).length) p55_c1, .slice p55_2 (((Z n).1.q1).length) p55_c2, .bool ((Z n).1.b2), .slice p55_3 (((Z n).1.t2).length) p55_c3, .slice p55_4 (((Z n).1.q2).length) p55_c4]) rfl rfl) ?_
       intro a hA
       refine seq_do hA rfl rfl rfl (d_loadS hS SmJ_isS_26 rfl 0 rfl (cs := [.bool ((Z n).1.b1), .slice p63_1 (((Z n).1.t1).length) p63_c1, .slice p63_2 (((Z n).1.q1).length) p63_c2, .bool ((Z n).1.b2), .slice p63_3 (((Z n).1.t2).length) p63_c3, .slice p63_4 (((Z n).1.q2).length) p63_c4]) rfl rfl) ?_
       intro a hA
       refine seq_call hA rfl rfl rfl (enters_func  rfl rfl (fun w => by kernel_rfl)) (alike_any (show Nm _ (Z n).1 p55_1 p55_c1 p55_2 p55_c2 p55_3 p55_c3 p55_4 p55_c4 from ⟨⟨(hS.rd 7 rfl), hn56.s1.nil, hn56.s1.cap⟩, ⟨(hS.rd 6 rfl), hn56.s2.nil, hn56.s2.cap⟩, ⟨(hS.rd 5 rfl), hn56.s3.nil, hn56.s3.cap⟩, ⟨(hS.rd 4 rfl), hn56.s4.nil, hn56.s4.cap⟩⟩) (lZ _) ⟨⟨(hS.rd 3 rfl), hn64.s1.nil, hn64.s1.cap⟩, ⟨(hS.rd 2 rfl), hn64.s2.nil, hn64.s2.cap⟩, ⟨(hS.rd 1 rfl), hn64.s3.nil, hn64.s3.cap⟩, ⟨(hS.rd 0 rfl), hn64.s4.nil, hn64.s4.cap⟩⟩) ?_
       rintro _ w74 ⟨rfl, hb73⟩
       replace hS := hS.call hb73
       refine ⟨_, rfl, ?_⟩
       intro a hA
       refine seq_do (v := .bool true) hA rfl rfl rfl (d_pick rfl rfl rfl rfl) ?_
       intro a hA
       refine seq_do hA rfl rfl rfl (d_move rfl) ?_
       intro a hA
       refine seq_do hA rfl rfl rfl (d_move rfl) ?_
       intro a hA
       refine seq_do hA rfl rfl rfl (d_move rfl) ?_
       intro a hA
       refine seq_do (v := .bool true) hA rfl rfl rfl (d_bin rfl rfl (fun w => (bin_eql w).trans (by rw [show (((Z n).2 == (Z n).2)) = true from (beq_self_eq_true _)]))) ?_
       intro a hA
       refine seq_do (v := .bool true) hA rfl rfl rfl (d_pick rfl rfl rfl rfl) ?_
       intro a hA
       refine seq_do hA rfl rfl rfl (d_assign rfl) ?_
       intro a hA
       refine seq_end ?_
       refine hK70 _ _ ?_
       refine wp_ret ?_
       refine hret _ _ ?_
       refine ends (v := .bool true) hA rfl (.cons (res_tmp rfl) .nil) rfl ?_
       exact ⟨rfl, hS.bel⟩
   · have hb7' := of_decide_eq_false hb7
     refine seq_do (v := .bool false) hA rfl rfl rfl (d_bin rfl rfl (fun w => (bin_geq w).trans (by rw [hb7]))) ?_
     intro a hA
     refine seq_do (v := .bool false) hA rfl rfl rfl (d_pick rfl rfl rfl rfl) ?_
     intro a hA
     refine seq_do hA rfl rfl rfl (d_move rfl) ?_
     intro a hA
     refine seq_skip hA rfl rfl rfl ?_
     intro a hA
     refine seq_skip hA rfl rfl rfl ?_
     intro a hA
     refine seq_do (v := .bool false) hA rfl rfl rfl (d_pick rfl rfl rfl rfl) ?_
     intro a hA
     refine seq_end ?_
     refine hK5 _ _ ?_
     refine wp_cond_false (hA.ev rfl) ?_
     refine wp_skip ?_
     refine hK4 _ _ ?_
     refine wp_seq_k (fun K75 hK75 => ?_)
     refine wp_region_lit ?_
     refine seq_do hA rfl rfl rfl (d_loadS hS SmJ_isS_26 rfl 0 rfl (cs := [.bool p.b1, .slice a1 p.t1.length ac1, .slice a2 p.q1.length ac2, .bool p.b2, .slice a3 p.t2.length ac3, .slice a4 p.q2.length ac4]) rfl rfl) ?_
     intro a hA
     refine seq_do hA rfl rfl rfl (d_move rfl) ?_
     intro a hA
     refine seq_call hA rfl rfl rfl (enters_func  rfl rfl (fun w => by kernel_rfl)) (exptQ_as (show Nm _ p a1 ac1 a2 ac2 a3 ac3 a4 ac4 from ⟨⟨(hS.rd 3 rfl), ha.s1.nil, ha.s1.cap⟩, ⟨(hS.rd 2 rfl), ha.s2.nil, ha.s2.cap⟩, ⟨(hS.rd 1 rfl), ha.s3.nil, ha.s3.cap⟩, ⟨(hS.rd 0 rfl), ha.s4.nil, ha.s4.cap⟩⟩) hl (eZ _)) ?_
     rintro _ w79 ⟨p76_1, p76_c1, p76_2, p76_c2, p76_3, p76_c3, p76_4, p76_c4, rfl, hn77, hb78⟩
     replace hS := hS.call hb78
     replace hS := hS.addR hn77.s1.rd
     replace hS := hS.addR hn77.s2.rd
     replace hS := hS.addR hn77.s3.rd
     replace hS := hS.addR hn77.s4.rd
     refine ⟨_, rfl, ?_⟩
     intro a hA
     refine seq_do hA rfl rfl rfl (d_move rfl) ?_
     intro a hA
     refine seq_do (v := .agg #[.bool ((Z n).1.b1), .slice p76_1 (((Z n).1.t1).length) p76_c1, .slice p76_2 (((Z n).1.q1).length) p76_c2, .bool ((Z n).1.b2), .slice p76_3 (((Z n).1.t2).length) p76_c3, .slice p76_4 (((Z n).1.q2).length) p76_c4]) hA rfl rfl rfl (d_extract (vs := [.agg #[.bool ((Z n).1.b1), .slice p76_1 (((Z n).1.t1).length) p76_c1, .slice p76_2 (((Z n).1.q1).length) p76_c2, .bool ((Z n).1.b2), .slice p76_3 (((Z n).1.t2).length) p76_c3, .slice p76_4 (((Z n).1.q2).length) p76_c4], .int .i64 ((Z n).2)]) rfl rfl) ?_
     intro a hA
     refine seq_do (v := .int .i64 ((Z n).2)) hA rfl rfl rfl (d_extract (vs := [.agg #[.bool ((Z n).1.b1), .slice p76_1 (((Z n).1.t1).length) p76_c1, .slice p76_2 (((Z n).1.q1).length) p76_c2, .bool ((Z n).1.b2), .slice p76_3 (((Z n).1.t2).length) p76_c3, .slice p76_4 (((Z n).1.q2).length) p76_c4], .int .i64 ((Z n).2)]) rfl rfl) ?_
     intro a hA
     refine seq_new (vs := [.bool false, .slice none 0 0, .slice none 0 0, .bool false, .slice none 0 0, .slice none 0 0]) (t := 26) hA hS rfl rfl rfl (fun g => .pointer (some ⟨g, 0, none⟩)) (d_alloc (z := .agg #[.bool false, .slice none 0 0, .slice none 0 0, .bool false, .slice none 0 0, .slice none 0 0]) (by kernel_rfl) rfl) rfl ?_
     intro g80 w81 hS a hA
     refine seq_store (us := [.bool ((Z n).1.b1), .slice p76_1 (((Z n).1.t1).length) p76_c1, .slice p76_2 (((Z n).1.q1).length) p76_c2, .bool ((Z n).1.b2), .slice p76_3 (((Z n).1.t2).length) p76_c3, .slice p76_4 (((Z n).1.q2).length) p76_c4]) hA hS rfl rfl (sets_store rfl rfl rfl (by kernel_rfl) hS 0 rfl rfl rfl) 0 rfl rfl rfl rfl ?_
     intro w82 hS
     refine seq_do hA rfl rfl rfl (d_assign rfl) ?_
     intro a hA
     refine seq_end ?_
     refine hK75 _ _ ?_
     refine wp_seq_k (fun K83 hK83 => ?_)
     refine wp_region_lit ?_
     refine seq_do hA rfl rfl rfl (d_loadS hS SmJ_isS_26 rfl 1 rfl (cs := [.bool p.b1, .slice a1 p.t1.length ac1, .slice a2 p.q1.length ac2, .bool p.b2, .slice a3 p.t2.length ac3, .slice a4 p.q2.length ac4]) rfl rfl) ?_
     intro a hA
     refine seq_do hA rfl rfl rfl (d_move rfl) ?_
     intro a hA
     refine seq_call hA rfl rfl rfl (enters_func  rfl rfl (fun w => by kernel_rfl)) (rexptQ_as (show Nm _ p a1 ac1 a2 ac2 a3 ac3 a4 ac4 from ⟨⟨(hS.rd 7 rfl), ha.s1.nil, ha.s1.cap⟩, ⟨(hS.rd 6 rfl), ha.s2.nil, ha.s2.cap⟩, ⟨(hS.rd 5 rfl), ha.s3.nil, ha.s3.cap⟩, ⟨(hS.rd 4 rfl), ha.s4.nil, ha.s4.cap⟩⟩) hl (eZ _)) ?_
     rintro _ w87 ⟨p84_1, p84_c1, p84_2, p84_c2, p84_3, p84_c3, p84_4, p84_c4, rfl, hn85, hb86⟩
     replace hS := hS.call hb86
     replace hS := hS.addR hn85.s1.rd
     replace hS := hS.addR hn85.s2.rd
     replace hS := hS.addR hn85.s3.rd
     replace hS := hS.addR hn85.s4.rd
     refine ⟨_, rfl, ?_⟩
     intro a hA
     refine seq_do hA rfl rfl rfl (d_move rfl) ?_
     intro a hA
     refine seq_do (v := .agg #[.bool ((Z n).1.b1), .slice p84_1 (((Z n).1.t1).length) p84_c1, .slice p84_2 (((Z n).1.q1).length) p84_c2, .bool ((Z n).1.b2), .slice p84_3 (((Z n).1.t2).length) p84_c3, .slice p84_4 (((Z n).1.q2).length) p84_c4]) hA rfl rfl rfl (d_extract (vs := [.agg #[.bool ((Z n).1.b1), .slice p84_1 (((Z n).1.t1).length) p84_c1, .slice p84_2 (((Z n).1.q1).length) p84_c2, .bool ((Z n).1.b2), .slice p84_3 (((Z n).1.t2).length) p84_c3, .slice p84_4 (((Z n).1.q2).length) p84_c4], .int .i64 ((Z n).2)]) rfl rfl) ?_
     intro a hA
     refine seq_do (v := .int .i64 ((Z n).2)) hA rfl rfl rfl (d_extract (vs := [.agg #[.bool ((Z n).1.b1), .slice p84_1 (((Z n).1.t1).length) p84_c1, .slice p84_2 (((Z n).1.q1).length) p84_c2, .bool ((Z n).1.b2), .slice p84_3 (((Z n).1.t2).length) p84_c3, .slice p84_4 (((Z n).1.q2).length) p84_c4], .int .i64 ((Z n).2)]) rfl rfl) ?_
     intro a hA
     refine seq_new (vs := [.bool false, .slice none 0 0, .slice none 0 0, .bool false, .slice none 0 0, .slice none 0 0]) (t := 26) hA hS rfl rfl rfl (fun g => .pointer (some ⟨g, 0, none⟩)) (d_alloc (z := .agg #[.bool false, .slice none 0 0, .slice none 0 0, .bool false, .slice none 0 0, .slice none 0 0]) (by kernel_rfl) rfl) rfl ?_
     intro g88 w89 hS a hA
     refine seq_store (us := [.bool ((Z n).1.b1), .slice p84_1 (((Z n).1.t1).length) p84_c1, .slice p84_2 (((Z n).1.q1).length) p84_c2, .bool ((Z n).1.b2), .slice p84_3 (((Z n).1.t2).length) p84_c3, .slice p84_4 (((Z n).1.q2).length) p84_c4]) hA hS rfl rfl (sets_store rfl rfl rfl (by kernel_rfl) hS 0 rfl rfl rfl) 0 rfl rfl rfl rfl ?_
     intro w90 hS
     refine seq_do hA rfl rfl rfl (d_assign rfl) ?_
     intro a hA
     refine seq_end ?_
     refine hK83 _ _ ?_
     refine wp_seq_k (fun K91 hK91 => ?_)
     refine wp_region_lit ?_
     refine seq_call hA rfl rfl rfl (enters_func  rfl rfl (fun w => by kernel_rfl)) (awake3_any) ?_
     rintro _ w93 ⟨rfl, hb92⟩
     replace hS := hS.call hb92
     refine ⟨_, rfl, ?_⟩
     intro a hA
     refine seq_do hA rfl rfl rfl (d_move rfl) ?_
     intro a hA
     refine seq_do hA rfl rfl rfl (d_loadS hS SmJ_isS_26 rfl 1 rfl (cs := [.bool ((Z n).1.b1), .slice p76_1 (((Z n).1.t1).length) p76_c1, .slice p76_2 (((Z n).1.q1).length) p76_c2, .bool ((Z n).1.b2), .slice p76_3 (((Z n).1.t2).length) p76_c3, .slice p76_4 (((Z n).1.q2).length) p76_c4]) rfl rfl) ?_
     intro a hA
     refine seq_do hA rfl rfl rfl (d_loadS hS SmJ_isS_26 rfl 0 rfl (cs := [.bool ((Z n).1.b1), .slice p84_1 (((Z n).1.t1).length) p84_c1, .slice p84_2 (((Z n).1.q1).length) p84_c2, .bool ((Z n).1.b2), .slice p84_3 (((Z n).1.t2).length) p84_c3, .slice p84_4 (((Z n).1.q2).length) p84_c4]) rfl rfl) ?_
     intro a hA
     refine seq_call hA rfl rfl rfl (enters_func  rfl rfl (fun w => by kernel_rfl)) (alike_any (show Nm _ (Z n).1 p76_1 p76_c1 p76_2 p76_c2 p76_3 p76_c3 p76_4 p76_c4 from ⟨⟨(hS.rd 7 rfl), hn77.s1.nil, hn77.s1.cap⟩, ⟨(hS.rd 6 rfl), hn77.s2.nil, hn77.s2.cap⟩, ⟨(hS.rd 5 rfl), hn77.s3.nil, hn77.s3.cap⟩, ⟨(hS.rd 4 rfl), hn77.s4.nil, hn77.s4.cap⟩⟩) (lZ _) ⟨⟨(hS.rd 3 rfl), hn85.s1.nil, hn85.s1.cap⟩, ⟨(hS.rd 2 rfl), hn85.s2.nil, hn85.s2.cap⟩, ⟨(hS.rd 1 rfl), hn85.s3.nil, hn85.s3.cap⟩, ⟨(hS.rd 0 rfl), hn85.s4.nil, hn85.s4.cap⟩⟩) ?_
     rintro _ w95 ⟨rfl, hb94⟩
     replace hS := hS.call hb94
     refine ⟨_, rfl, ?_⟩
     intro a hA
     refine seq_do (v := .bool true) hA rfl rfl rfl (d_pick rfl rfl rfl rfl) ?_
     intro a hA
     refine seq_do hA rfl rfl rfl (d_move rfl) ?_
     intro a hA
     refine seq_do hA rfl rfl rfl (d_move rfl) ?_
     intro a hA
     refine seq_do hA rfl rfl rfl (d_move rfl) ?_
     intro a hA
     refine seq_do (v := .bool true) hA rfl rfl rfl (d_bin rfl rfl (fun w => (bin_eql w).trans (by rw [show (((Z n).2 == (Z n).2)) = true from (beq_self_eq_true _)]))) ?_
     intro a hA
     refine seq_do (v := .bool true) hA rfl rfl rfl (d_pick rfl rfl rfl rfl) ?_
     intro a hA
     refine seq_do hA rfl rfl rfl (d_assign rfl) ?_
     intro a hA
     refine seq_end ?_
     refine hK91 _ _ ?_
     refine wp_ret ?_
     refine hret _ _ ?_
     refine ends (v := .bool true) hA rfl (.cons (res_tmp rfl) .nil) rfl ?_
     exact ⟨rfl, hS.bel⟩
 · have hb6' := of_decide_eq_false hb6
   refine seq_do (v := .bool false) hA rfl rfl rfl (d_bin rfl rfl (fun w => (bin_gtr w).trans (by rw [hb6]))) ?_
   intro a hA
   refine seq_do hA rfl rfl rfl (d_move rfl) ?_
   intro a hA
   refine seq_skip hA rfl rfl rfl ?_
   intro a hA
   refine seq_skip hA rfl rfl rfl ?_
   intro a hA
   refine seq_do (v := .bool false) hA rfl rfl rfl (d_pick rfl rfl rfl rfl) ?_
   intro a hA
   refine seq_do hA rfl rfl rfl (d_move rfl) ?_
   intro a hA
   refine seq_skip hA rfl rfl rfl ?_
   intro a hA
   refine seq_skip hA rfl rfl rfl ?_
   intro a hA
   refine seq_do (v := .bool false) hA rfl rfl rfl (d_pick rfl rfl rfl rfl) ?_
   intro a hA
   refine seq_end ?_
   refine hK5 _ _ ?_
   refine wp_cond_false (hA.ev rfl) ?_
   refine wp_skip ?_
   refine hK4 _ _ ?_
   refine wp_seq_k (fun K96 hK96 => ?_)
   refine wp_region_lit ?_
   refine seq_do hA rfl rfl rfl (d_loadS hS SmJ_isS_26 rfl 0 rfl (cs := [.bool p.b1, .slice a1 p.t1.length ac1, .slice a2 p.q1.length ac2, .bool p.b2, .slice a3 p.t2.length ac3, .slice a4 p.q2.length ac4]) rfl rfl) ?_
   intro a hA
   refine seq_do hA rfl rfl rfl (d_move rfl) ?_
   intro a hA
   refine seq_call hA rfl rfl rfl (enters_func  rfl rfl (fun w => by kernel_rfl)) (exptQ_as (show Nm _ p a1 ac1 a2 ac2 a3 ac3 a4 ac4 from ⟨⟨(hS.rd 3 rfl), ha.s1.nil, ha.s1.cap⟩, ⟨(hS.rd 2 rfl), ha.s2.nil, ha.s2.cap⟩, ⟨(hS.rd 1 rfl), ha.s3.nil, ha.s3.cap⟩, ⟨(hS.rd 0 rfl), ha.s4.nil, ha.s4.cap⟩⟩) hl (eZ _)) ?_
   rintro _ w100 ⟨p97_1, p97_c1, p97_2, p97_c2, p97_3, p97_c3, p97_4, p97_c4, rfl, hn98, hb99⟩
   replace hS := hS.call hb99
   replace hS := hS.addR hn98.s1.rd
   replace hS := hS.addR hn98.s2.rd
   replace hS := hS.addR hn98.s3.rd
   replace hS := hS.addR hn98.s4.rd
   refine ⟨_, rfl, ?_⟩
   intro a hA
   refine seq_do hA rfl rfl rfl (d_move rfl) ?_
   intro a hA
   refine seq_do (v := .agg #[.bool ((Z n).1.b1), .slice p97_1 (((Z n).1.t1).length) p97_c1, .slice p97_2 (((Z n).1.q1).length) p97_c2, .bool ((Z n).1.b2), .slice p97_3 (((Z n).1.t2).length) p97_c3, .slice p97_4 (((Z n).1.q2).length) p97_c4]) hA rfl rfl rfl (d_extract (vs := [.agg #[.bool ((Z n).1.b1), .slice p97_1 (((Z n).1.t1).length) p97_c1, .slice p97_2 (((Z n).1.q1).length) p97_c2, .bool ((Z n).1.b2), .slice p97_3 (((Z n).1.t2).length) p97_c3, .slice p97_4 (((Z n).1.q2).length) p97_c4], .int .i64 ((Z n).2)]) rfl rfl) ?_
   intro a hA
   refine seq_do (v := .int .i64 ((Z n).2)) hA rfl rfl rfl (d_extract (vs := [.agg #[.bool ((Z n).1.b1), .slice p97_1 (((Z n).1.t1).length) p97_c1, .slice p97_2 (((Z n).1.q1).length) p97_c2, .bool ((Z n).1.b2), .slice p97_3 (((Z n).1.t2).length) p97_c3, .slice p97_4 (((Z n).1.q2).length) p97_c4], .int .i64 ((Z n).2)]) rfl rfl) ?_
   intro a hA
   refine seq_new (vs := [.bool false, .slice none 0 0, .slice none 0 0, .bool false, .slice none 0 0, .slice none 0 0]) (t := 26) hA hS rfl rfl rfl (fun g => .pointer (some ⟨g, 0, none⟩)) (d_alloc (z := .agg #[.bool false, .slice none 0 0, .slice none 0 0, .bool false, .slice none 0 0, .slice none 0 0]) (by kernel_rfl) rfl) rfl ?_
   intro g101 w102 hS a hA
   refine seq_store (us := [.bool ((Z n).1.b1), .slice p97_1 (((Z n).1.t1).length) p97_c1, .slice p97_2 (((Z n).1.q1).length) p97_c2, .bool ((Z n).1.b2), .slice p97_3 (((Z n).1.t2).length) p97_c3, .slice p97_4 (((Z n).1.q2).length) p97_c4]) hA hS rfl rfl (sets_store rfl rfl rfl (by kernel_rfl) hS 0 rfl rfl rfl) 0 rfl rfl rfl rfl ?_
   intro w103 hS
   refine seq_do hA rfl rfl rfl (d_assign rfl) ?_
   intro a hA
   refine seq_end ?_
   refine hK96 _ _ ?_
   refine wp_seq_k (fun K104 hK104 => ?_)
   refine wp_region_lit ?_
   refine seq_do hA rfl rfl rfl (d_loadS hS SmJ_isS_26 rfl 1 rfl (cs := [.bool p.b1, .slice a1 p.t1.length ac1, .slice a2 p.q1.length ac2, .bool p.b2, .slice a3 p.t2.length ac3, .slice a4 p.q2.length ac4]) rfl rfl) ?_
   intro a hA
   refine seq_do hA rfl rfl rfl (d_move rfl) ?_
   intro a hA
   refine seq_call hA rfl rfl rfl (enters_func  rfl rfl (fun w => by kernel_rfl)) (rexptQ_as (show Nm _ p a1 ac1 a2 ac2 a3 ac3 a4 ac4 from ⟨⟨(hS.rd 7 rfl), ha.s1.nil, ha.s1.cap⟩, ⟨(hS.rd 6 rfl), ha.s2.nil, ha.s2.cap⟩, ⟨(hS.rd 5 rfl), ha.s3.nil, ha.s3.cap⟩, ⟨(hS.rd 4 rfl), ha.s4.nil, ha.s4.cap⟩⟩) hl (eZ _)) ?_
   rintro _ w108 ⟨p105_1, p105_c1, p105_2, p105_c2, p105_3, p105_c3, p105_4, p105_c4, rfl, hn106, hb107⟩
   replace hS := hS.call hb107
   replace hS := hS.addR hn106.s1.rd
   replace hS := hS.addR hn106.s2.rd
   replace hS := hS.addR hn106.s3.rd
   replace hS := hS.addR hn106.s4.rd
   refine ⟨_, rfl, ?_⟩
   intro a hA
   refine seq_do hA rfl rfl rfl (d_move rfl) ?_
   intro a hA
   refine seq_do (v := .agg #[.bool ((Z n).1.b1), .slice p105_1 (((Z n).1.t1).length) p105_c1, .slice p105_2 (((Z n).1.q1).length) p105_c2, .bool ((Z n).1.b2), .slice p105_3 (((Z n).1.t2).length) p105_c3, .slice p105_4 (((Z n).1.q2).length) p105_c4]) hA rfl rfl rfl (d_extract (vs := [.agg #[.bool ((Z n).1.b1), .slice p105_1 (((Z n).1.t1).length) p105_c1, .slice p105_2 (((Z n).1.q1).length) p105_c2, .bool ((Z n).1.b2), .slice p105_3 (((Z n).1.t2).length) p105_c3, .slice p105_4 (((Z n).1.q2).length) p105_c4], .int .i64 ((Z n).2)]) rfl rfl) ?_
   intro a hA
   refine seq_do (v := .int .i64 ((Z n).2)) hA rfl rfl rfl (d_extract (vs := [.agg #[.bool ((Z n).1.b1), .slice p105_1 (((Z n).1.t1).length) p105_c1, .slice p105_2 (((Z n).1.q1).length) p105_c2, .bool ((Z n).1.b2), .slice p105_3 (((Z n).1.t2).length) p105_c3, .slice p105_4 (((Z n).1.q2).length) p105_c4], .int .i64 ((Z n).2)]) rfl rfl) ?_
   intro a hA
   refine seq_new (vs := [.bool false, .slice none 0 0, .slice none 0 0, .bool false, .slice none 0 0, .slice none 0 0]) (t := 26) hA hS rfl rfl rfl (fun g => .pointer (some ⟨g, 0, none⟩)) (d_alloc (z := .agg #[.bool false, .slice none 0 0, .slice none 0 0, .bool false, .slice none 0 0, .slice none 0 0]) (by kernel_rfl) rfl) rfl ?_
   intro g109 w110 hS a hA
   refine seq_store (us := [.bool ((Z n).1.b1), .slice p105_1 (((Z n).1.t1).length) p105_c1, .slice p105_2 (((Z n).1.q1).length) p105_c2, .bool ((Z n).1.b2), .slice p105_3 (((Z n).1.t2).length) p105_c3, .slice p105_4 (((Z n).1.q2).length) p105_c4]) hA hS rfl rfl (sets_store rfl rfl rfl (by kernel_rfl) hS 0 rfl rfl rfl) 0 rfl rfl rfl rfl ?_
   intro w111 hS
   refine seq_do hA rfl rfl rfl (d_assign rfl) ?_
   intro a hA
   refine seq_end ?_
   refine hK104 _ _ ?_
   refine wp_seq_k (fun K112 hK112 => ?_)
   refine wp_region_lit ?_
   refine seq_call hA rfl rfl rfl (enters_func  rfl rfl (fun w => by kernel_rfl)) (awake3_any) ?_
   rintro _ w114 ⟨rfl, hb113⟩
   replace hS := hS.call hb113
   refine ⟨_, rfl, ?_⟩
   intro a hA
   refine seq_do hA rfl rfl rfl (d_move rfl) ?_
   intro a hA
   refine seq_do hA rfl rfl rfl (d_loadS hS SmJ_isS_26 rfl 1 rfl (cs := [.bool ((Z n).1.b1), .slice p97_1 (((Z n).1.t1).length) p97_c1, .slice p97_2 (((Z n).1.q1).length) p97_c2, .bool ((Z n).1.b2), .slice p97_3 (((Z n).1.t2).length) p97_c3, .slice p97_4 (((Z n).1.q2).length) p97_c4]) rfl rfl) ?_
   intro a hA
   refine seq_do hA rfl rfl rfl (d_loadS hS SmJ_isS_26 rfl 0 rfl (cs := [.bool ((Z n).1.b1), .slice p105_1 (((Z n).1.t1).length) p105_c1, .slice p105_2 (((Z n).1.q1).length) p105_c2, .bool ((Z n).1.b2), .slice p105_3 (((Z n).1.t2).length) p105_c3, .slice p105_4 (((Z n).1.q2).length) p105_c4]) rfl rfl) ?_
   intro a hA
   refine seq_call hA rfl rfl rfl (enters_func  rfl rfl (fun w => by kernel_rfl)) (alike_any (show Nm _ (Z n).1 p97_1 p97_c1 p97_2 p97_c2 p97_3 p97_c3 p97_4 p97_c4 from ⟨⟨(hS.rd 7 rfl), hn98.s1.nil, hn98.s1.cap⟩, ⟨(hS.rd 6 rfl), hn98.s2.nil, hn98.s2.cap⟩, ⟨(hS.rd 5 rfl), hn98.s3.nil, hn98.s3.cap⟩, ⟨(hS.rd 4 rfl), hn98.s4.nil, hn98.s4.cap⟩⟩) (lZ _) ⟨⟨(hS.rd 3 rfl), hn106.s1.nil, hn106.s1.cap⟩, ⟨(hS.rd 2 rfl), hn106.s2.nil, hn106.s2.cap⟩, ⟨(hS.rd 1 rfl), hn106.s3.nil, hn106.s3.cap⟩, ⟨(hS.rd 0 rfl), hn106.s4.nil, hn106.s4.cap⟩⟩) ?_
   rintro _ w116 ⟨rfl, hb115⟩
   replace hS := hS.call hb115
   refine ⟨_, rfl, ?_⟩
   intro a hA
   refine seq_do (v := .bool true) hA rfl rfl rfl (d_pick rfl rfl rfl rfl) ?_
   intro a hA
   refine seq_do hA rfl rfl rfl (d_move rfl) ?_
   intro a hA
   refine seq_do hA rfl rfl rfl (d_move rfl) ?_
   intro a hA
   refine seq_do hA rfl rfl rfl (d_move rfl) ?_
   intro a hA
   refine seq_do (v := .bool true) hA rfl rfl rfl (d_bin rfl rfl (fun w => (bin_eql w).trans (by rw [show (((Z n).2 == (Z n).2)) = true from (beq_self_eq_true _)]))) ?_
   intro a hA
   refine seq_do (v := .bool true) hA rfl rfl rfl (d_pick rfl rfl rfl rfl) ?_
   intro a hA
   refine seq_do hA rfl rfl rfl (d_assign rfl) ?_
   intro a hA
   refine seq_end ?_
   refine hK112 _ _ ?_
   refine wp_ret ?_
   refine hret _ _ ?_
   refine ends (v := .bool true) hA rfl (.cons (res_tmp rfl) .nil) rfl ?_
   exact ⟨rfl, hS.bel⟩
theorem exactPowers_any {w : World} {p : Q6} {a1 a2 a3 a4 : Option Addr} {ac1 ac2 ac3 ac4 : Nat} (ha : Nm w p a1 ac1 a2 ac2 a3 ac3 a4 ac4) (hl : LenQ p) {n : Int} (h0 : -9223372036854775808 ≤ n) (h1 : n ≤ 9223372036854775807) : Calls Tryz.prog 5 #[numV p a1 ac1 a2 ac2 a3 ac3 a4 ac4, .int .i64 n] w fun e w' => e = .returned (.bool true) ∧ Below w.heap.size w w' := powersW_any ha hl (fun _ => rfl) (lenQ_expt _)
end Go.Proofs.YthlkbnhbmfmchaaGreat
namespace Go.Proofs.YthlkbnhbmfmchaaGreat
open Go.ChangeShapes Go.WideShapes Go.ChangeAt Go.RowKit Go.Joins Go.Deep
set_option linter.unusedVariables false
set_option linter.unusedSimpArgs false
set_option maxRecDepth 100000

section
variable {H : Type} {enc : TypeId × Value → H} {W : World}
theorem trod_bool {fuel : Nat} {v : Value} {x : DataW H × List MemPlace} (h : DataW.trod enc Tryz.prog W 0 (fun _ => true) true fuel 4 [v] = some x) : ∃ b, v = .bool b := by
  obtain ⟨b, h, _⟩ := DataW.trod_bool Tryz.underlying4 h
  exact ⟨b, by simpa using h⟩
theorem trod_words {fuel : Nat} {v : Value} {x : DataW H × List MemPlace} (h : DataW.trod enc Tryz.prog W 0 (fun _ => true) true fuel 22 [v] = some x) : ∃ ao c l, v = .slice ao l.length c ∧ Arg W ao c l := by
  rcases open_ints Tryz.underlying22 Tryz.underlying66 (by kernel_rfl) h with ⟨hcs, _⟩ | ⟨x, l, c, zs, hcs, _, hl, hm, hz, hx, hcell, hwz⟩
  · cases hcs
    exact ⟨none, 0, [], rfl, arg_nil W⟩
  · cases hcs
    obtain ⟨us, e, ha⟩ := arg_row hl hm (by simpa using hz) hcell hwz
    subst e
    exact ⟨_, _, us, rfl, ha⟩
theorem trod_rat {fuel : Nat} {v0 v1 v2 : Value} {x : DataW H × List MemPlace} (h : DataW.trod enc Tryz.prog W 0 (fun _ => true) true fuel 24 [v0, v1, v2] = some x) : ∃ b o1 c1 l1 o2 c2 l2, v0 = .bool b ∧ v1 = .slice o1 l1.length c1 ∧ v2 = .slice o2 l2.length c2 ∧ Arg W o1 c1 l1 ∧ Arg W o2 c2 l2 := by
  obtain ⟨y0, y1, y2, n, _, _, h0, h1, h2⟩ := trod_struct3 Tryz.underlying24 h
  have e0 : Tryz.prog.cellsOf 4 = 1 := by kernel_rfl
  have e1 : Tryz.prog.cellsOf 22 = 1 := by kernel_rfl
  simp only [e0, e1, List.drop_zero, List.take_succ_cons, List.take_zero, List.drop_succ_cons] at h0 h1 h2
  obtain ⟨b, rfl⟩ := trod_bool h0
  obtain ⟨o1, c1, l1, rfl, a1⟩ := trod_words h1
  obtain ⟨o2, c2, l2, rfl, a2⟩ := trod_words h2
  exact ⟨b, o1, c1, l1, o2, c2, l2, rfl, rfl, rfl, a1, a2⟩
theorem open_num {base : Nat} {v : Value} {d : DataW H} {p : List MemPlace} (hv : Value.okWide Tryz.prog W .any base 26 v) (h : DataW.Trod enc Tryz.prog W 0 (fun _ => true) true 26 v d p) :
    ∃ q o1 c1 o2 c2 o3 c3 o4 c4, v = numV q o1 c1 o2 c2 o3 c3 o4 c4 ∧ Nm W q o1 c1 o2 c2 o3 c3 o4 c4 ∧ LenQ q := by
  obtain ⟨cs, rfl, hsz⟩ := okWide_struct Tryz.underlying26 hv
  rw [show Tryz.prog.cellsOf 26 = 6 from by kernel_rfl] at hsz
  obtain ⟨cs⟩ := cs
  match cs, hsz with
  | [v0, v1, v2, v3, v4, v5], _ =>
    obtain ⟨fuel, hf⟩ := h
    obtain ⟨y0, y1, n, _, _, h0, h1⟩ := trod_struct2 Tryz.underlying26 hf
    have e : Tryz.prog.cellsOf 24 = 3 := by kernel_rfl
    simp only [Value.cells, e, List.drop_zero, List.take_succ_cons, List.take_zero, List.drop_succ_cons] at h0 h1
    obtain ⟨b1, o1, c1, l1, o2, c2, l2, rfl, rfl, rfl, a1, a2⟩ := trod_rat h0
    obtain ⟨b2, o3, c3, l3, o4, c4, l4, rfl, rfl, rfl, a3, a4⟩ := trod_rat h1
    exact ⟨⟨b1, l1, l2, b2, l3, l4⟩, o1, c1, o2, c2, o3, c3, o4, c4, rfl, ⟨⟨a1.rd, a1.nil, a1.caps⟩, ⟨a2.rd, a2.nil, a2.caps⟩, ⟨a3.rd, a3.nil, a3.caps⟩, ⟨a4.rd, a4.nil, a4.caps⟩⟩, ⟨a1.len, a2.len, a3.len, a4.len⟩⟩
end
end Go.Proofs.YthlkbnhbmfmchaaGreat
