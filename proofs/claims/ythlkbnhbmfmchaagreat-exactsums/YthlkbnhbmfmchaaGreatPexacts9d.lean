/- Walks of the document's Small. Walks of the order and the quotients of real numbers. Walks of Cmp and of the quotients. The document's Small and Int of any number, and the walk of the law of sums. Numbers that come in as arguments. -/
import Derived.Test.YthlkbnhbmfmchaaGreatPexacts9c
import Derived.Test.YthlkbnhbmfmchaaGreatPexacts9a
import Derived.Test.YthlkbnhbmfmchaaGreatArgs
import Derived.WalkKit
import Derived.ProofKit
import Derived.OpenShut
import Derived.ChangeOld
import Derived.Lib.SmallJoins
import Derived.Deep.Strs
namespace Go.Proofs.YthlkbnhbmfmchaaGreat
open Go.RowKit
set_option linter.unusedVariables false
set_option linter.unusedSimpArgs false
set_option maxRecDepth 100000
theorem SmB_is1_22 : Is1 Tryz.prog 22 := ⟨⟨_, Tryz.underlying22, rfl⟩, by kernel_rfl⟩
theorem SmB_is1_4 : Is1 Tryz.prog 4 := ⟨⟨_, Tryz.underlying4, rfl⟩, by kernel_rfl⟩
theorem SmB_is1_66 : Is1 Tryz.prog 66 := ⟨⟨_, Tryz.underlying66, rfl⟩, by kernel_rfl⟩
theorem SmB_fld_24_0 : FieldAt Tryz.prog 24 0 0 := ⟨_, _, Tryz.underlying24, rfl, rfl, by kernel_rfl⟩
theorem SmB_fld_24_1 : FieldAt Tryz.prog 24 1 1 := ⟨_, _, Tryz.underlying24, rfl, rfl, by kernel_rfl⟩
theorem SmB_fld_26_0 : FieldAt Tryz.prog 26 0 0 := ⟨_, _, Tryz.underlying26, rfl, rfl, by kernel_rfl⟩
theorem SmB_isS_26 : IsS Tryz.prog 26 6 := ⟨⟨_, Tryz.underlying26⟩, by kernel_rfl⟩
theorem rsmallE0_any {w : World} {q : Q6} {a1 a2 a3 a4 : Option Addr} {ac1 ac2 ac3 ac4 : Nat} (ha : Nm w q a1 ac1 a2 ac2 a3 ac3 a4 ac4) (hl : LenQ q) (h1 : soundQ q = false) : Calls Tryz.prog 15 #[numV q a1 ac1 a2 ac2 a3 ac3 a4 ac4] w fun e w' => e = .returned (.tuple #[.int .i64 0, .int .i64 2]) ∧ Below w.heap.size w w' := by
 have hS : St w w [] [(a4, q.q2), (a3, q.t2), (a2, q.q1), (a1, q.t1)] [] := ((((St.start w).addR ha.s1.rd).addR ha.s2.rd).addR ha.s3.rd).addR ha.s4.rd
 refine walk_of (l := [(0, .agg #[.bool q.b1, .slice a1 q.t1.length ac1, .slice a2 q.q1.length ac2, .bool q.b2, .slice a3 q.t2.length ac3, .slice a4 q.q2.length ac4])]) Tryz.func15 rfl Tryz.ntmps15 rfl rfl ?_
 intro Q hret hnorm hP a hA
 refine wp_seq_k (fun K1 hK1 => ?_)
 refine wp_region_lit ?_
 refine seq_new (vs := [.bool q.b1, .slice a1 q.t1.length ac1, .slice a2 q.q1.length ac2, .bool q.b2, .slice a3 q.t2.length ac3, .slice a4 q.q2.length ac4]) (t := 26) hA hS rfl rfl rfl (fun g => .pointer (some ⟨g, 0, none⟩)) (d_box rfl rfl) rfl ?_
 intro g2 w3 hS a hA
 refine seq_do hA rfl rfl rfl (d_assign rfl) ?_
 intro a hA
 refine seq_do hA rfl rfl rfl (d_assign rfl) ?_
 intro a hA
 refine seq_end ?_
 refine hK1 _ _ ?_
 refine wp_seq_k (fun K4 hK4 => ?_)
 refine wp_seq_k (fun K5 hK5 => ?_)
 refine wp_region_lit ?_
 refine seq_do hA rfl rfl rfl (d_loadS hS SmB_isS_26 rfl 0 rfl (cs := [.bool q.b1, .slice a1 q.t1.length ac1, .slice a2 q.q1.length ac2, .bool q.b2, .slice a3 q.t2.length ac3, .slice a4 q.q2.length ac4]) rfl rfl) ?_
 intro a hA
 refine seq_call hA rfl rfl rfl (enters_func  rfl rfl (fun w => by kernel_rfl)) (rsoundQ_any (show Nm _ _ a1 ac1 a2 ac2 a3 ac3 a4 ac4 from ⟨⟨(hS.rd 3 rfl), ha.s1.nil, ha.s1.cap⟩, ⟨(hS.rd 2 rfl), ha.s2.nil, ha.s2.cap⟩, ⟨(hS.rd 1 rfl), ha.s3.nil, ha.s3.cap⟩, ⟨(hS.rd 0 rfl), ha.s4.nil, ha.s4.cap⟩⟩) hl h1) ?_
 rintro _ w7 ⟨rfl, hb6⟩
 replace hS := hS.call hb6
 refine ⟨_, rfl, ?_⟩
 intro a hA
 refine seq_do (v := .bool true) hA rfl rfl rfl (d_un rfl un_not) ?_
 intro a hA
 refine seq_end ?_
 refine hK5 _ _ ?_
 refine wp_cond_true (hA.ev rfl) ?_
 refine wp_seq_k (fun K8 hK8 => ?_)
 refine wp_region_lit ?_
 refine seq_do hA rfl rfl rfl (d_assign rfl) ?_
 intro a hA
 refine seq_do hA rfl rfl rfl (d_assign rfl) ?_
 intro a hA
 refine seq_end ?_
 refine hK8 _ _ ?_
 refine wp_ret ?_
 refine hret _ _ ?_
 refine ends (v := .tuple #[.int .i64 0, .int .i64 2]) hA rfl (.cons (res_tmp rfl) (.cons (res_tmp rfl) .nil)) rfl ?_
 exact ⟨rfl, hS.bel⟩
theorem rsmallE1_any {w : World} {q : Q6} {a1 a2 a3 a4 : Option Addr} {ac1 ac2 ac3 ac4 : Nat} (ha : Nm w q a1 ac1 a2 ac2 a3 ac3 a4 ac4) (hl : LenQ q) (h1 : soundQ q = true) (h2 : wholeQ q = false) : Calls Tryz.prog 15 #[numV q a1 ac1 a2 ac2 a3 ac3 a4 ac4] w fun e w' => e = .returned (.tuple #[.int .i64 0, .int .i64 10]) ∧ Below w.heap.size w w' := by
 have hS : St w w [] [(a4, q.q2), (a3, q.t2), (a2, q.q1), (a1, q.t1)] [] := ((((St.start w).addR ha.s1.rd).addR ha.s2.rd).addR ha.s3.rd).addR ha.s4.rd
 refine walk_of (l := [(0, .agg #[.bool q.b1, .slice a1 q.t1.length ac1, .slice a2 q.q1.length ac2, .bool q.b2, .slice a3 q.t2.length ac3, .slice a4 q.q2.length ac4])]) Tryz.func15 rfl Tryz.ntmps15 rfl rfl ?_
 intro Q hret hnorm hP a hA
 refine wp_seq_k (fun K1 hK1 => ?_)
 refine wp_region_lit ?_
 refine seq_new (vs := [.bool q.b1, .slice a1 q.t1.length ac1, .slice a2 q.q1.length ac2, .bool q.b2, .slice a3 q.t2.length ac3, .slice a4 q.q2.length ac4]) (t := 26) hA hS rfl rfl rfl (fun g => .pointer (some ⟨g, 0, none⟩)) (d_box rfl rfl) rfl ?_
 intro g2 w3 hS a hA
 refine seq_do hA rfl rfl rfl (d_assign rfl) ?_
 intro a hA
 refine seq_do hA rfl rfl rfl (d_assign rfl) ?_
 intro a hA
 refine seq_end ?_
 refine hK1 _ _ ?_
 refine wp_seq_k (fun K4 hK4 => ?_)
 refine wp_seq_k (fun K5 hK5 => ?_)
 refine wp_region_lit ?_
 refine seq_do hA rfl rfl rfl (d_loadS hS SmB_isS_26 rfl 0 rfl (cs := [.bool q.b1, .slice a1 q.t1.length ac1, .slice a2 q.q1.length ac2, .bool q.b2, .slice a3 q.t2.length ac3, .slice a4 q.q2.length ac4]) rfl rfl) ?_
 intro a hA
 refine seq_call hA rfl rfl rfl (enters_func  rfl rfl (fun w => by kernel_rfl)) (rsoundQ_any (show Nm _ _ a1 ac1 a2 ac2 a3 ac3 a4 ac4 from ⟨⟨(hS.rd 3 rfl), ha.s1.nil, ha.s1.cap⟩, ⟨(hS.rd 2 rfl), ha.s2.nil, ha.s2.cap⟩, ⟨(hS.rd 1 rfl), ha.s3.nil, ha.s3.cap⟩, ⟨(hS.rd 0 rfl), ha.s4.nil, ha.s4.cap⟩⟩) hl h1) ?_
 rintro _ w7 ⟨rfl, hb6⟩
 replace hS := hS.call hb6
 refine ⟨_, rfl, ?_⟩
 intro a hA
 refine seq_do (v := .bool false) hA rfl rfl rfl (d_un rfl un_not) ?_
 intro a hA
 refine seq_end ?_
 refine hK5 _ _ ?_
 refine wp_cond_false (hA.ev rfl) ?_
 refine wp_skip ?_
 refine hK4 _ _ ?_
 refine wp_seq_k (fun K8 hK8 => ?_)
 refine wp_seq_k (fun K9 hK9 => ?_)
 refine wp_region_lit ?_
 refine seq_do hA rfl rfl rfl (d_loadS hS SmB_isS_26 rfl 0 rfl (cs := [.bool q.b1, .slice a1 q.t1.length ac1, .slice a2 q.q1.length ac2, .bool q.b2, .slice a3 q.t2.length ac3, .slice a4 q.q2.length ac4]) rfl rfl) ?_
 intro a hA
 refine seq_call hA rfl rfl rfl (enters_func  rfl rfl (fun w => by kernel_rfl)) (rwholeQ_any (show Nm _ _ a1 ac1 a2 ac2 a3 ac3 a4 ac4 from ⟨⟨(hS.rd 3 rfl), ha.s1.nil, ha.s1.cap⟩, ⟨(hS.rd 2 rfl), ha.s2.nil, ha.s2.cap⟩, ⟨(hS.rd 1 rfl), ha.s3.nil, ha.s3.cap⟩, ⟨(hS.rd 0 rfl), ha.s4.nil, ha.s4.cap⟩⟩) hl h2) ?_
 rintro _ w11 ⟨rfl, hb10⟩
 replace hS := hS.call hb10
 refine ⟨_, rfl, ?_⟩
 intro a hA
 refine seq_do (v := .bool true) hA rfl rfl rfl (d_un rfl un_not) ?_
 intro a hA
 refine seq_end ?_
 refine hK9 _ _ ?_
 refine wp_cond_true (hA.ev rfl) ?_
 refine wp_seq_k (fun K12 hK12 => ?_)
 refine wp_region_lit ?_
 refine seq_do hA rfl rfl rfl (d_assign rfl) ?_
 intro a hA
 refine seq_do hA rfl rfl rfl (d_assign rfl) ?_
 intro a hA
 refine seq_end ?_
 refine hK12 _ _ ?_
 refine wp_ret ?_
 refine hret _ _ ?_
 refine ends (v := .tuple #[.int .i64 0, .int .i64 10]) hA rfl (.cons (res_tmp rfl) (.cons (res_tmp rfl) .nil)) rfl ?_
 exact ⟨rfl, hS.bel⟩
theorem rsmall0fS_any {w : World}  {a1 a2 a3 a4 : Option Addr} {ac1 ac2 ac3 ac4 : Nat} (ha : Nm w ((⟨false, [], [1], false, [], [1]⟩ : Q6)) a1 ac1 a2 ac2 a3 ac3 a4 ac4) (hs : soundQ (⟨false, [], [1], false, [], [1]⟩ : Q6) = true) (hw : wholeQ (⟨false, [], [1], false, [], [1]⟩ : Q6) = true) (hk : (words (0)) = []) (hz : bl (0) ≤ 64) (hc : 0 ≤ 9223372036854775807) : Calls Tryz.prog 15 #[numV (⟨false, [], [1], false, [], [1]⟩ : Q6) a1 ac1 a2 ac2 a3 ac3 a4 ac4] w fun e w' => e = .returned (.tuple #[.int .i64 (sgn false (0)), .int .i64 0]) ∧ Below w.heap.size w w' := by
 have hS : St w w [] [(a4, [1]), (a3, []), (a2, [1]), (a1, [])] [] := ((((St.start w).addR ha.s1.rd).addR ha.s2.rd).addR ha.s3.rd).addR ha.s4.rd
 refine walk_of (l := [(0, .agg #[.bool false, .slice a1 0 ac1, .slice a2 1 ac2, .bool false, .slice a3 0 ac3, .slice a4 1 ac4])]) Tryz.func15 rfl Tryz.ntmps15 rfl rfl ?_
 intro Q hret hnorm hP a hA
 refine wp_seq_k (fun K1 hK1 => ?_)
 refine wp_region_lit ?_
 refine seq_new (vs := [.bool false, .slice a1 0 ac1, .slice a2 1 ac2, .bool false, .slice a3 0 ac3, .slice a4 1 ac4]) (t := 26) hA hS rfl rfl rfl (fun g => .pointer (some ⟨g, 0, none⟩)) (d_box rfl rfl) rfl ?_
 intro g2 w3 hS a hA
 refine seq_do hA rfl rfl rfl (d_assign rfl) ?_
 intro a hA
 refine seq_do hA rfl rfl rfl (d_assign rfl) ?_
 intro a hA
 refine seq_end ?_
 refine hK1 _ _ ?_
 refine wp_seq_k (fun K4 hK4 => ?_)
 refine wp_seq_k (fun K5 hK5 => ?_)
 refine wp_region_lit ?_
 refine seq_do hA rfl rfl rfl (d_loadS hS SmB_isS_26 rfl 0 rfl (cs := [.bool false, .slice a1 0 ac1, .slice a2 1 ac2, .bool false, .slice a3 0 ac3, .slice a4 1 ac4]) rfl rfl) ?_
 intro a hA
 refine seq_call hA rfl rfl rfl (enters_func  rfl rfl (fun w => by kernel_rfl)) (rsoundQ_any (show Nm _ _ a1 ac1 a2 ac2 a3 ac3 a4 ac4 from ⟨⟨(hS.rd 3 rfl), ha.s1.nil, ha.s1.cap⟩, ⟨(hS.rd 2 rfl), ha.s2.nil, ha.s2.cap⟩, ⟨(hS.rd 1 rfl), ha.s3.nil, ha.s3.cap⟩, ⟨(hS.rd 0 rfl), ha.s4.nil, ha.s4.cap⟩⟩) ⟨Nat.le_of_ble_eq_true rfl, Nat.le_of_ble_eq_true rfl, Nat.le_of_ble_eq_true rfl, Nat.le_of_ble_eq_true rfl⟩ hs) ?_
 rintro _ w7 ⟨rfl, hb6⟩
 replace hS := hS.call hb6
 refine ⟨_, rfl, ?_⟩
 intro a hA
 refine seq_do (v := .bool false) hA rfl rfl rfl (d_un rfl un_not) ?_
 intro a hA
 refine seq_end ?_
 refine hK5 _ _ ?_
 refine wp_cond_false (hA.ev rfl) ?_
 refine wp_skip ?_
 refine hK4 _ _ ?_
 refine wp_seq_k (fun K8 hK8 => ?_)
 refine wp_seq_k (fun K9 hK9 => ?_)
 refine wp_region_lit ?_
 refine seq_do hA rfl rfl rfl (d_loadS hS SmB_isS_26 rfl 0 rfl (cs := [.bool false, .slice a1 0 ac1, .slice a2 1 ac2, .bool false, .slice a3 0 ac3, .slice a4 1 ac4]) rfl rfl) ?_
 intro a hA
 refine seq_call hA rfl rfl rfl (enters_func  rfl rfl (fun w => by kernel_rfl)) (rwholeQ_any (show Nm _ _ a1 ac1 a2 ac2 a3 ac3 a4 ac4 from ⟨⟨(hS.rd 3 rfl), ha.s1.nil, ha.s1.cap⟩, ⟨(hS.rd 2 rfl), ha.s2.nil, ha.s2.cap⟩, ⟨(hS.rd 1 rfl), ha.s3.nil, ha.s3.cap⟩, ⟨(hS.rd 0 rfl), ha.s4.nil, ha.s4.cap⟩⟩) ⟨Nat.le_of_ble_eq_true rfl, Nat.le_of_ble_eq_true rfl, Nat.le_of_ble_eq_true rfl, Nat.le_of_ble_eq_true rfl⟩ hw) ?_
 rintro _ w11 ⟨rfl, hb10⟩
 replace hS := hS.call hb10
 refine ⟨_, rfl, ?_⟩
 intro a hA
 refine seq_do (v := .bool false) hA rfl rfl rfl (d_un rfl un_not) ?_
 intro a hA
 refine seq_end ?_
 refine hK9 _ _ ?_
 refine wp_cond_false (hA.ev rfl) ?_
 refine wp_skip ?_
 refine hK8 _ _ ?_
 refine wp_seq_k (fun K12 hK12 => ?_)
 refine wp_seq_k (fun K13 hK13 => ?_)
 refine wp_region_lit ?_
 refine seq_do (v := .pointer (some ⟨g2, 0, none⟩)) hA rfl rfl rfl (d_field SmB_fld_26_0 rfl rfl) ?_
 intro a hA
 refine seq_do (v := .pointer (some ⟨g2, 1, none⟩)) hA rfl rfl rfl (d_field SmB_fld_24_1 rfl rfl) ?_
 intro a hA
 refine seq_do hA rfl rfl rfl (d_load1 hS SmB_is1_22 rfl 0 rfl rfl) ?_
 intro a hA
 refine seq_call hA rfl rfl rfl (enters_func  rfl rfl (fun w => by kernel_rfl)) ((show Calls Tryz.prog 53 #[.slice a1 0 ac1] _ (fun e w' => e = .returned (.int .i64 ((bl (0) : Nat) : Int)) ∧ w' = _) from (by have h9 := size_any (x := 0) ac1 (show Rd _ a1 (words (0)) from (by rw [hk]; exact (hS.rd 3 rfl))) (by rw [hk]; exact Nat.le_of_ble_eq_true rfl); rw [hk] at h9; exact h9))) ?_
 rintro _ w15 ⟨rfl, hb14⟩
 replace hb14 := below_eq hb14
 replace hS := hS.call hb14
 refine ⟨_, rfl, ?_⟩
 intro a hA
 refine seq_do (v := .bool false) hA rfl rfl rfl (d_bin rfl rfl (fun w => (bin_gtr w).trans (by rw [show (decide (64 < ((bl (0) : Nat) : Int))) = false from (decide_eq_false (by omega))]))) ?_
 intro a hA
 refine seq_end ?_
 refine hK13 _ _ ?_
 refine wp_cond_false (hA.ev rfl) ?_
 refine wp_skip ?_
 refine hK12 _ _ ?_
 refine wp_seq_k (fun K16 hK16 => ?_)
 refine wp_region_lit ?_
 refine seq_do hA rfl rfl rfl (d_assign rfl) ?_
 intro a hA
 refine seq_end ?_
 refine hK16 _ _ ?_
 refine wp_seq_k (fun K17 hK17 => ?_)
 refine wp_seq_k (fun K18 hK18 => ?_)
 refine wp_region_lit ?_
 refine seq_do (v := .pointer (some ⟨g2, 0, none⟩)) hA rfl rfl rfl (d_field SmB_fld_26_0 rfl rfl) ?_
 intro a hA
 refine seq_do (v := .pointer (some ⟨g2, 1, none⟩)) hA rfl rfl rfl (d_field SmB_fld_24_1 rfl rfl) ?_
 intro a hA
 refine seq_do hA rfl rfl rfl (d_load1 hS SmB_is1_22 rfl 0 rfl rfl) ?_
 intro a hA
 refine seq_do (v := .int .i64 0) hA rfl rfl rfl (d_len Tryz.underlying22 rfl) ?_
 intro a hA
 refine seq_do (v := .int .i64 (-1)) hA rfl rfl rfl (d_bin rfl rfl (fun w => by kernel_rfl)) ?_
 intro a hA
 refine seq_do hA rfl rfl rfl (d_assign rfl) ?_
 intro a hA
 refine seq_end ?_
 refine hK18 _ _ ?_
 refine wp_block ?_
 refine wp_loop_rounds 12 ?_
 refine rounds_k (fun K19 hK19 => ?_)
 refine wp_seq_k (fun K20 hK20 => ?_)
 refine wp_seq_k (fun K21 hK21 => ?_)
 refine wp_region_lit ?_
 refine seq_do hA rfl rfl rfl (d_move rfl) ?_
 intro a hA
 refine seq_do (v := .bool false) hA rfl rfl rfl (d_bin rfl rfl (fun w => by kernel_rfl)) ?_
 intro a hA
 refine seq_end ?_
 refine hK21 _ _ ?_
 refine wp_cond_false (hA.ev rfl) ?_
 refine wp_exit ?_
 refine hK17 _ _ ?_
 refine wp_seq_k (fun K22 hK22 => ?_)
 refine wp_seq_k (fun K23 hK23 => ?_)
 refine wp_region_lit ?_
 refine seq_do (v := .pointer (some ⟨g2, 0, none⟩)) hA rfl rfl rfl (d_field SmB_fld_26_0 rfl rfl) ?_
 intro a hA
 refine seq_do (v := .pointer (some ⟨g2, 0, none⟩)) hA rfl rfl rfl (d_field SmB_fld_24_0 rfl rfl) ?_
 intro a hA
 refine seq_do hA rfl rfl rfl (d_load1 hS SmB_is1_4 rfl 0 rfl rfl) ?_
 intro a hA
 refine seq_end ?_
 refine hK23 _ _ ?_
 refine wp_cond_false (hA.ev rfl) ?_
 refine wp_skip ?_
 refine hK22 _ _ ?_
 refine wp_seq_k (fun K24 hK24 => ?_)
 refine wp_seq_k (fun K25 hK25 => ?_)
 refine wp_region_lit ?_
 refine seq_do hA rfl rfl rfl (d_move rfl) ?_
 intro a hA
 refine seq_do (v := .bool false) hA rfl rfl rfl (d_bin rfl rfl (fun w => by kernel_rfl)) ?_
 intro a hA
 refine seq_end ?_
 refine hK25 _ _ ?_
 refine wp_cond_false (hA.ev rfl) ?_
 refine wp_skip ?_
 refine hK24 _ _ ?_
 refine wp_seq_k (fun K26 hK26 => ?_)
 refine wp_region_lit ?_
 refine seq_do hA rfl rfl rfl (d_move rfl) ?_
 intro a hA
 refine seq_do (v := .int .i64 0) hA rfl rfl rfl (d_convert rfl (ar_conv Tryz.underlying61 Tryz.underlying3 (in_i64 (by omega) (by omega)))) ?_
 intro a hA
 refine seq_do hA rfl rfl rfl (d_assign rfl) ?_
 intro a hA
 refine seq_do hA rfl rfl rfl (d_assign rfl) ?_
 intro a hA
 refine seq_end ?_
 refine hK26 _ _ ?_
 refine wp_ret ?_
 refine hret _ _ ?_
 refine ends (v := .tuple #[.int .i64 0, .int .i64 0]) hA rfl (.cons (res_tmp rfl) (.cons (res_tmp rfl) .nil)) rfl ?_
 exact ⟨by rw [show 0 = sgn false (0) from by simp only [sgn]; first | rfl | omega | (simp; omega)], hS.bel⟩
theorem rsmall1fS_any {w : World} {d0 : Nat} (h0 : d0 < 4294967296) {a1 a2 a3 a4 : Option Addr} {ac1 ac2 ac3 ac4 : Nat} (ha : Nm w ((⟨false, [d0], [1], false, [], [1]⟩ : Q6)) a1 ac1 a2 ac2 a3 ac3 a4 ac4) (hs : soundQ (⟨false, [d0], [1], false, [], [1]⟩ : Q6) = true) (hw : wholeQ (⟨false, [d0], [1], false, [], [1]⟩ : Q6) = true) (hk : (words (d0)) = [d0]) (hz : bl (d0) ≤ 64) (hc : d0 ≤ 9223372036854775807) : Calls Tryz.prog 15 #[numV (⟨false, [d0], [1], false, [], [1]⟩ : Q6) a1 ac1 a2 ac2 a3 ac3 a4 ac4] w fun e w' => e = .returned (.tuple #[.int .i64 (sgn false (d0)), .int .i64 0]) ∧ Below w.heap.size w w' := by
 have hS : St w w [] [(a4, [1]), (a3, []), (a2, [1]), (a1, [d0])] [] := ((((St.start w).addR ha.s1.rd).addR ha.s2.rd).addR ha.s3.rd).addR ha.s4.rd
 refine walk_of (l := [(0, .agg #[.bool false, .slice a1 1 ac1, .slice a2 1 ac2, .bool false, .slice a3 0 ac3, .slice a4 1 ac4])]) Tryz.func15 rfl Tryz.ntmps15 rfl rfl ?_
 intro Q hret hnorm hP a hA
 refine wp_seq_k (fun K1 hK1 => ?_)
 refine wp_region_lit ?_
 refine seq_new (vs := [.bool false, .slice a1 1 ac1, .slice a2 1 ac2, .bool false, .slice a3 0 ac3, .slice a4 1 ac4]) (t := 26) hA hS rfl rfl rfl (fun g => .pointer (some ⟨g, 0, none⟩)) (d_box rfl rfl) rfl ?_
 intro g2 w3 hS a hA
 refine seq_do hA rfl rfl rfl (d_assign rfl) ?_
 intro a hA
 refine seq_do hA rfl rfl rfl (d_assign rfl) ?_
 intro a hA
 refine seq_end ?_
 refine hK1 _ _ ?_
 refine wp_seq_k (fun K4 hK4 => ?_)
 refine wp_seq_k (fun K5 hK5 => ?_)
 refine wp_region_lit ?_
 refine seq_do hA rfl rfl rfl (d_loadS hS SmB_isS_26 rfl 0 rfl (cs := [.bool false, .slice a1 1 ac1, .slice a2 1 ac2, .bool false, .slice a3 0 ac3, .slice a4 1 ac4]) rfl rfl) ?_
 intro a hA
 refine seq_call hA rfl rfl rfl (enters_func  rfl rfl (fun w => by kernel_rfl)) (rsoundQ_any (show Nm _ _ a1 ac1 a2 ac2 a3 ac3 a4 ac4 from ⟨⟨(hS.rd 3 rfl), ha.s1.nil, ha.s1.cap⟩, ⟨(hS.rd 2 rfl), ha.s2.nil, ha.s2.cap⟩, ⟨(hS.rd 1 rfl), ha.s3.nil, ha.s3.cap⟩, ⟨(hS.rd 0 rfl), ha.s4.nil, ha.s4.cap⟩⟩) ⟨Nat.le_of_ble_eq_true rfl, Nat.le_of_ble_eq_true rfl, Nat.le_of_ble_eq_true rfl, Nat.le_of_ble_eq_true rfl⟩ hs) ?_
 rintro _ w7 ⟨rfl, hb6⟩
 replace hS := hS.call hb6
 refine ⟨_, rfl, ?_⟩
 intro a hA
 refine seq_do (v := .bool false) hA rfl rfl rfl (d_un rfl un_not) ?_
 intro a hA
 refine seq_end ?_
 refine hK5 _ _ ?_
 refine wp_cond_false (hA.ev rfl) ?_
 refine wp_skip ?_
 refine hK4 _ _ ?_
 refine wp_seq_k (fun K8 hK8 => ?_)
 refine wp_seq_k (fun K9 hK9 => ?_)
 refine wp_region_lit ?_
 refine seq_do hA rfl rfl rfl (d_loadS hS SmB_isS_26 rfl 0 rfl (cs := [.bool false, .slice a1 1 ac1, .slice a2 1 ac2, .bool false, .slice a3 0 ac3, .slice a4 1 ac4]) rfl rfl) ?_
 intro a hA
 refine seq_call hA rfl rfl rfl (enters_func  rfl rfl (fun w => by kernel_rfl)) (rwholeQ_any (show Nm _ _ a1 ac1 a2 ac2 a3 ac3 a4 ac4 from ⟨⟨(hS.rd 3 rfl), ha.s1.nil, ha.s1.cap⟩, ⟨(hS.rd 2 rfl), ha.s2.nil, ha.s2.cap⟩, ⟨(hS.rd 1 rfl), ha.s3.nil, ha.s3.cap⟩, ⟨(hS.rd 0 rfl), ha.s4.nil, ha.s4.cap⟩⟩) ⟨Nat.le_of_ble_eq_true rfl, Nat.le_of_ble_eq_true rfl, Nat.le_of_ble_eq_true rfl, Nat.le_of_ble_eq_true rfl⟩ hw) ?_
 rintro _ w11 ⟨rfl, hb10⟩
 replace hS := hS.call hb10
 refine ⟨_, rfl, ?_⟩
 intro a hA
 refine seq_do (v := .bool false) hA rfl rfl rfl (d_un rfl un_not) ?_
 intro a hA
 refine seq_end ?_
 refine hK9 _ _ ?_
 refine wp_cond_false (hA.ev rfl) ?_
 refine wp_skip ?_
 refine hK8 _ _ ?_
 refine wp_seq_k (fun K12 hK12 => ?_)
 refine wp_seq_k (fun K13 hK13 => ?_)
 refine wp_region_lit ?_
 refine seq_do (v := .pointer (some ⟨g2, 0, none⟩)) hA rfl rfl rfl (d_field SmB_fld_26_0 rfl rfl) ?_
 intro a hA
 refine seq_do (v := .pointer (some ⟨g2, 1, none⟩)) hA rfl rfl rfl (d_field SmB_fld_24_1 rfl rfl) ?_
 intro a hA
 refine seq_do hA rfl rfl rfl (d_load1 hS SmB_is1_22 rfl 0 rfl rfl) ?_
 intro a hA
 refine seq_call hA rfl rfl rfl (enters_func  rfl rfl (fun w => by kernel_rfl)) ((show Calls Tryz.prog 53 #[.slice a1 1 ac1] _ (fun e w' => e = .returned (.int .i64 ((bl (d0) : Nat) : Int)) ∧ w' = _) from (by have h9 := size_any (x := d0) ac1 (show Rd _ a1 (words (d0)) from (by rw [hk]; exact (hS.rd 3 rfl))) (by rw [hk]; exact Nat.le_of_ble_eq_true rfl); rw [hk] at h9; exact h9))) ?_
 rintro _ w15 ⟨rfl, hb14⟩
 replace hb14 := below_eq hb14
 replace hS := hS.call hb14
 refine ⟨_, rfl, ?_⟩
 intro a hA
 refine seq_do (v := .bool false) hA rfl rfl rfl (d_bin rfl rfl (fun w => (bin_gtr w).trans (by rw [show (decide (64 < ((bl (d0) : Nat) : Int))) = false from (decide_eq_false (by omega))]))) ?_
 intro a hA
 refine seq_end ?_
 refine hK13 _ _ ?_
 refine wp_cond_false (hA.ev rfl) ?_
 refine wp_skip ?_
 refine hK12 _ _ ?_
 refine wp_seq_k (fun K16 hK16 => ?_)
 refine wp_region_lit ?_
 refine seq_do hA rfl rfl rfl (d_assign rfl) ?_
 intro a hA
 refine seq_end ?_
 refine hK16 _ _ ?_
 refine wp_seq_k (fun K17 hK17 => ?_)
 refine wp_seq_k (fun K18 hK18 => ?_)
 refine wp_region_lit ?_
 refine seq_do (v := .pointer (some ⟨g2, 0, none⟩)) hA rfl rfl rfl (d_field SmB_fld_26_0 rfl rfl) ?_
 intro a hA
 refine seq_do (v := .pointer (some ⟨g2, 1, none⟩)) hA rfl rfl rfl (d_field SmB_fld_24_1 rfl rfl) ?_
 intro a hA
 refine seq_do hA rfl rfl rfl (d_load1 hS SmB_is1_22 rfl 0 rfl rfl) ?_
 intro a hA
 refine seq_do (v := .int .i64 1) hA rfl rfl rfl (d_len Tryz.underlying22 rfl) ?_
 intro a hA
 refine seq_do (v := .int .i64 0) hA rfl rfl rfl (d_bin rfl rfl (fun w => by kernel_rfl)) ?_
 intro a hA
 refine seq_do hA rfl rfl rfl (d_assign rfl) ?_
 intro a hA
 refine seq_end ?_
 refine hK18 _ _ ?_
 refine wp_block ?_
 refine wp_loop_rounds 12 ?_
 refine rounds_k (fun K19 hK19 => ?_)
 refine wp_seq_k (fun K20 hK20 => ?_)
 refine wp_seq_k (fun K21 hK21 => ?_)
 refine wp_region_lit ?_
 refine seq_do hA rfl rfl rfl (d_move rfl) ?_
 intro a hA
 refine seq_do (v := .bool true) hA rfl rfl rfl (d_bin rfl rfl (fun w => by kernel_rfl)) ?_
 intro a hA
 refine seq_end ?_
 refine hK21 _ _ ?_
 refine wp_cond_true (hA.ev rfl) ?_
 refine wp_skip ?_
 refine hK20 _ _ ?_
 refine wp_seq_k (fun K22 hK22 => ?_)
 refine wp_block ?_
 refine wp_region_lit ?_
 refine seq_do hA rfl rfl rfl (d_move rfl) ?_
 intro a hA
 refine seq_do (v := .int .u64 0) hA rfl rfl rfl (d_bin rfl rfl (ar_mul (by decide))) ?_
 intro a hA
 refine seq_do (v := .pointer (some ⟨g2, 0, none⟩)) hA rfl rfl rfl (d_field SmB_fld_26_0 rfl rfl) ?_
 intro a hA
 refine seq_do (v := .pointer (some ⟨g2, 1, none⟩)) hA rfl rfl rfl (d_field SmB_fld_24_1 rfl rfl) ?_
 intro a hA
 refine seq_do hA rfl rfl rfl (d_load1 hS SmB_is1_22 rfl 0 rfl rfl) ?_
 intro a hA
 refine seq_do hA rfl rfl rfl (d_move rfl) ?_
 intro a hA
 have hi26 : 0 < ([d0]).length := by first | (simp; done) | omega
 obtain ⟨b23, f24, hso25⟩ := Rd.addr (hS.rd 3 rfl) hi26
 refine seq_do (v := .pointer (some ⟨b23, f24 + 0, none⟩)) hA rfl rfl rfl (d_indexRow (k := 0) Tryz.underlying22 (by kernel_rfl) rfl rfl (by omega) hso25 (by omega)) ?_
 intro a hA
 refine seq_do (v := .int .u32 (((([d0]).getD 0 0 : Nat) : Int))) hA rfl rfl rfl (d_loadRow (hS.rd 3 rfl) hso25 hi26 SmB_is1_66 rfl) ?_
 intro a hA
 refine seq_do (v := .int .u64 (((d0 : Nat) : Int))) hA rfl rfl rfl (d_convert rfl (ar_conv Tryz.underlying66 Tryz.underlying61 (show IntKind.u64.wrap ((d0 : Nat) : Int) = ((d0 : Nat) : Int) from c32_u64 (by omega)))) ?_
 intro a hA
 refine seq_do (v := .int .u64 (((d0 : Nat) : Int))) hA rfl rfl rfl (d_bin rfl rfl (ar_add (show IntKind.u64.wrap (0 + ((d0 : Nat) : Int)) = ((d0 : Nat) : Int) from (in_u64 (by omega) (by omega)).trans (by omega)))) ?_
 intro a hA
 refine seq_do hA rfl rfl rfl (d_assign rfl) ?_
 intro a hA
 refine seq_end ?_
 refine hK22 _ _ ?_
 refine wp_region_lit ?_
 refine seq_do hA rfl rfl rfl (d_move rfl) ?_
 intro a hA
 refine seq_do (v := .int .i64 (-1)) hA rfl rfl rfl (d_bin rfl rfl (fun w => by kernel_rfl)) ?_
 intro a hA
 refine seq_do hA rfl rfl rfl (d_assign rfl) ?_
 intro a hA
 refine seq_end ?_
 refine hK19 _ _ ?_
 refine rounds_k (fun K27 hK27 => ?_)
 refine wp_seq_k (fun K28 hK28 => ?_)
 refine wp_seq_k (fun K29 hK29 => ?_)
 refine wp_region_lit ?_
 refine seq_do hA rfl rfl rfl (d_move rfl) ?_
 intro a hA
 refine seq_do (v := .bool false) hA rfl rfl rfl (d_bin rfl rfl (fun w => by kernel_rfl)) ?_
 intro a hA
 refine seq_end ?_
 refine hK29 _ _ ?_
 refine wp_cond_false (hA.ev rfl) ?_
 refine wp_exit ?_
 refine hK17 _ _ ?_
 refine wp_seq_k (fun K30 hK30 => ?_)
 refine wp_seq_k (fun K31 hK31 => ?_)
 refine wp_region_lit ?_
 refine seq_do (v := .pointer (some ⟨g2, 0, none⟩)) hA rfl rfl rfl (d_field SmB_fld_26_0 rfl rfl) ?_
 intro a hA
 refine seq_do (v := .pointer (some ⟨g2, 0, none⟩)) hA rfl rfl rfl (d_field SmB_fld_24_0 rfl rfl) ?_
 intro a hA
 refine seq_do hA rfl rfl rfl (d_load1 hS SmB_is1_4 rfl 0 rfl rfl) ?_
 intro a hA
 refine seq_end ?_
 refine hK31 _ _ ?_
 refine wp_cond_false (hA.ev rfl) ?_
 refine wp_skip ?_
 refine hK30 _ _ ?_
 refine wp_seq_k (fun K32 hK32 => ?_)
 refine wp_seq_k (fun K33 hK33 => ?_)
 refine wp_region_lit ?_
 refine seq_do hA rfl rfl rfl (d_move rfl) ?_
 intro a hA
 refine seq_do (v := .bool false) hA rfl rfl rfl (d_bin rfl rfl (fun w => (bin_geq w).trans (by rw [show (decide (9223372036854775808 ≤ ((d0 : Nat) : Int))) = false from (decide_eq_false (by omega))]))) ?_
 intro a hA
 refine seq_end ?_
 refine hK33 _ _ ?_
 refine wp_cond_false (hA.ev rfl) ?_
 refine wp_skip ?_
 refine hK32 _ _ ?_
 refine wp_seq_k (fun K34 hK34 => ?_)
 refine wp_region_lit ?_
 refine seq_do hA rfl rfl rfl (d_move rfl) ?_
 intro a hA
 refine seq_do (v := .int .i64 (((d0 : Nat) : Int))) hA rfl rfl rfl (d_convert rfl (ar_conv Tryz.underlying61 Tryz.underlying3 (in_i64 (by omega) (by omega)))) ?_
 intro a hA
 refine seq_do hA rfl rfl rfl (d_assign rfl) ?_
 intro a hA
 refine seq_do hA rfl rfl rfl (d_assign rfl) ?_
 intro a hA
 refine seq_end ?_
 refine hK34 _ _ ?_
 refine wp_ret ?_
 refine hret _ _ ?_
 refine ends (v := .tuple #[.int .i64 (((d0 : Nat) : Int)), .int .i64 0]) hA rfl (.cons (res_tmp rfl) (.cons (res_tmp rfl) .nil)) rfl ?_
 exact ⟨by rw [show (((d0 : Nat) : Int)) = sgn false (d0) from by simp only [sgn]; first | rfl | omega | (simp; omega)], hS.bel⟩
theorem rsmall1tS_any {w : World} {d0 : Nat} (h0 : d0 < 4294967296) {a1 a2 a3 a4 : Option Addr} {ac1 ac2 ac3 ac4 : Nat} (ha : Nm w ((⟨true, [d0], [1], false, [], [1]⟩ : Q6)) a1 ac1 a2 ac2 a3 ac3 a4 ac4) (hs : soundQ (⟨true, [d0], [1], false, [], [1]⟩ : Q6) = true) (hw : wholeQ (⟨true, [d0], [1], false, [], [1]⟩ : Q6) = true) (hk : (words (d0)) = [d0]) (hz : bl (d0) ≤ 64) (hc : d0 ≤ 9223372036854775808) (hp : 1 ≤ d0) : Calls Tryz.prog 15 #[numV (⟨true, [d0], [1], false, [], [1]⟩ : Q6) a1 ac1 a2 ac2 a3 ac3 a4 ac4] w fun e w' => e = .returned (.tuple #[.int .i64 (sgn true (d0)), .int .i64 0]) ∧ Below w.heap.size w w' := by
 have hS : St w w [] [(a4, [1]), (a3, []), (a2, [1]), (a1, [d0])] [] := ((((St.start w).addR ha.s1.rd).addR ha.s2.rd).addR ha.s3.rd).addR ha.s4.rd
 refine walk_of (l := [(0, .agg #[.bool true, .slice a1 1 ac1, .slice a2 1 ac2, .bool false, .slice a3 0 ac3, .slice a4 1 ac4])]) Tryz.func15 rfl Tryz.ntmps15 rfl rfl ?_
 intro Q hret hnorm hP a hA
 refine wp_seq_k (fun K1 hK1 => ?_)
 refine wp_region_lit ?_
 refine seq_new (vs := [.bool true, .slice a1 1 ac1, .slice a2 1 ac2, .bool false, .slice a3 0 ac3, .slice a4 1 ac4]) (t := 26) hA hS rfl rfl rfl (fun g => .pointer (some ⟨g, 0, none⟩)) (d_box rfl rfl) rfl ?_
 intro g2 w3 hS a hA
 refine seq_do hA rfl rfl rfl (d_assign rfl) ?_
 intro a hA
 refine seq_do hA rfl rfl rfl (d_assign rfl) ?_
 intro a hA
 refine seq_end ?_
 refine hK1 _ _ ?_
 refine wp_seq_k (fun K4 hK4 => ?_)
 refine wp_seq_k (fun K5 hK5 => ?_)
 refine wp_region_lit ?_
 refine seq_do hA rfl rfl rfl (d_loadS hS SmB_isS_26 rfl 0 rfl (cs := [.bool true, .slice a1 1 ac1, .slice a2 1 ac2, .bool false, .slice a3 0 ac3, .slice a4 1 ac4]) rfl rfl) ?_
 intro a hA
 refine seq_call hA rfl rfl rfl (enters_func  rfl rfl (fun w => by kernel_rfl)) (rsoundQ_any (show Nm _ _ a1 ac1 a2 ac2 a3 ac3 a4 ac4 from ⟨⟨(hS.rd 3 rfl), ha.s1.nil, ha.s1.cap⟩, ⟨(hS.rd 2 rfl), ha.s2.nil, ha.s2.cap⟩, ⟨(hS.rd 1 rfl), ha.s3.nil, ha.s3.cap⟩, ⟨(hS.rd 0 rfl), ha.s4.nil, ha.s4.cap⟩⟩) ⟨Nat.le_of_ble_eq_true rfl, Nat.le_of_ble_eq_true rfl, Nat.le_of_ble_eq_true rfl, Nat.le_of_ble_eq_true rfl⟩ hs) ?_
 rintro _ w7 ⟨rfl, hb6⟩
 replace hS := hS.call hb6
 refine ⟨_, rfl, ?_⟩
 intro a hA
 refine seq_do (v := .bool false) hA rfl rfl rfl (d_un rfl un_not) ?_
 intro a hA
 refine seq_end ?_
 refine hK5 _ _ ?_
 refine wp_cond_false (hA.ev rfl) ?_
 refine wp_skip ?_
 refine hK4 _ _ ?_
 refine wp_seq_k (fun K8 hK8 => ?_)
 refine wp_seq_k (fun K9 hK9 => ?_)
 refine wp_region_lit ?_
 refine seq_do hA rfl rfl rfl (d_loadS hS SmB_isS_26 rfl 0 rfl (cs := [.bool true, .slice a1 1 ac1, .slice a2 1 ac2, .bool false, .slice a3 0 ac3, .slice a4 1 ac4]) rfl rfl) ?_
 intro a hA
 refine seq_call hA rfl rfl rfl (enters_func  rfl rfl (fun w => by kernel_rfl)) (rwholeQ_any (show Nm _ _ a1 ac1 a2 ac2 a3 ac3 a4 ac4 from ⟨⟨(hS.rd 3 rfl), ha.s1.nil, ha.s1.cap⟩, ⟨(hS.rd 2 rfl), ha.s2.nil, ha.s2.cap⟩, ⟨(hS.rd 1 rfl), ha.s3.nil, ha.s3.cap⟩, ⟨(hS.rd 0 rfl), ha.s4.nil, ha.s4.cap⟩⟩) ⟨Nat.le_of_ble_eq_true rfl, Nat.le_of_ble_eq_true rfl, Nat.le_of_ble_eq_true rfl, Nat.le_of_ble_eq_true rfl⟩ hw) ?_
 rintro _ w11 ⟨rfl, hb10⟩
 replace hS := hS.call hb10
 refine ⟨_, rfl, ?_⟩
 intro a hA
 refine seq_do (v := .bool false) hA rfl rfl rfl (d_un rfl un_not) ?_
 intro a hA
 refine seq_end ?_
 refine hK9 _ _ ?_
 refine wp_cond_false (hA.ev rfl) ?_
 refine wp_skip ?_
 refine hK8 _ _ ?_
 refine wp_seq_k (fun K12 hK12 => ?_)
 refine wp_seq_k (fun K13 hK13 => ?_)
 refine wp_region_lit ?_
 refine seq_do (v := .pointer (some ⟨g2, 0, none⟩)) hA rfl rfl rfl (d_field SmB_fld_26_0 rfl rfl) ?_
 intro a hA
 refine seq_do (v := .pointer (some ⟨g2, 1, none⟩)) hA rfl rfl rfl (d_field SmB_fld_24_1 rfl rfl) ?_
 intro a hA
 refine seq_do hA rfl rfl rfl (d_load1 hS SmB_is1_22 rfl 0 rfl rfl) ?_
 intro a hA
 refine seq_call hA rfl rfl rfl (enters_func  rfl rfl (fun w => by kernel_rfl)) ((show Calls Tryz.prog 53 #[.slice a1 1 ac1] _ (fun e w' => e = .returned (.int .i64 ((bl (d0) : Nat) : Int)) ∧ w' = _) from (by have h9 := size_any (x := d0) ac1 (show Rd _ a1 (words (d0)) from (by rw [hk]; exact (hS.rd 3 rfl))) (by rw [hk]; exact Nat.le_of_ble_eq_true rfl); rw [hk] at h9; exact h9))) ?_
 rintro _ w15 ⟨rfl, hb14⟩
 replace hb14 := below_eq hb14
 replace hS := hS.call hb14
 refine ⟨_, rfl, ?_⟩
 intro a hA
 refine seq_do (v := .bool false) hA rfl rfl rfl (d_bin rfl rfl (fun w => (bin_gtr w).trans (by rw [show (decide (64 < ((bl (d0) : Nat) : Int))) = false from (decide_eq_false (by omega))]))) ?_
 intro a hA
 refine seq_end ?_
 refine hK13 _ _ ?_
 refine wp_cond_false (hA.ev rfl) ?_
 refine wp_skip ?_
 refine hK12 _ _ ?_
 refine wp_seq_k (fun K16 hK16 => ?_)
 refine wp_region_lit ?_
 refine seq_do hA rfl rfl rfl (d_assign rfl) ?_
 intro a hA
 refine seq_end ?_
 refine hK16 _ _ ?_
 refine wp_seq_k (fun K17 hK17 => ?_)
 refine wp_seq_k (fun K18 hK18 => ?_)
 refine wp_region_lit ?_
 refine seq_do (v := .pointer (some ⟨g2, 0, none⟩)) hA rfl rfl rfl (d_field SmB_fld_26_0 rfl rfl) ?_
 intro a hA
 refine seq_do (v := .pointer (some ⟨g2, 1, none⟩)) hA rfl rfl rfl (d_field SmB_fld_24_1 rfl rfl) ?_
 intro a hA
 refine seq_do hA rfl rfl rfl (d_load1 hS SmB_is1_22 rfl 0 rfl rfl) ?_
 intro a hA
 refine seq_do (v := .int .i64 1) hA rfl rfl rfl (d_len Tryz.underlying22 rfl) ?_
 intro a hA
 refine seq_do (v := .int .i64 0) hA rfl rfl rfl (d_bin rfl rfl (fun w => by kernel_rfl)) ?_
 intro a hA
 refine seq_do hA rfl rfl rfl (d_assign rfl) ?_
 intro a hA
 refine seq_end ?_
 refine hK18 _ _ ?_
 refine wp_block ?_
 refine wp_loop_rounds 12 ?_
 refine rounds_k (fun K19 hK19 => ?_)
 refine wp_seq_k (fun K20 hK20 => ?_)
 refine wp_seq_k (fun K21 hK21 => ?_)
 refine wp_region_lit ?_
 refine seq_do hA rfl rfl rfl (d_move rfl) ?_
 intro a hA
 refine seq_do (v := .bool true) hA rfl rfl rfl (d_bin rfl rfl (fun w => by kernel_rfl)) ?_
 intro a hA
 refine seq_end ?_
 refine hK21 _ _ ?_
 refine wp_cond_true (hA.ev rfl) ?_
 refine wp_skip ?_
 refine hK20 _ _ ?_
 refine wp_seq_k (fun K22 hK22 => ?_)
 refine wp_block ?_
 refine wp_region_lit ?_
 refine seq_do hA rfl rfl rfl (d_move rfl) ?_
 intro a hA
 refine seq_do (v := .int .u64 0) hA rfl rfl rfl (d_bin rfl rfl (ar_mul (by decide))) ?_
 intro a hA
 refine seq_do (v := .pointer (some ⟨g2, 0, none⟩)) hA rfl rfl rfl (d_field SmB_fld_26_0 rfl rfl) ?_
 intro a hA
 refine seq_do (v := .pointer (some ⟨g2, 1, none⟩)) hA rfl rfl rfl (d_field SmB_fld_24_1 rfl rfl) ?_
 intro a hA
 refine seq_do hA rfl rfl rfl (d_load1 hS SmB_is1_22 rfl 0 rfl rfl) ?_
 intro a hA
 refine seq_do hA rfl rfl rfl (d_move rfl) ?_
 intro a hA
 have hi26 : 0 < ([d0]).length := by first | (simp; done) | omega
 obtain ⟨b23, f24, hso25⟩ := Rd.addr (hS.rd 3 rfl) hi26
 refine seq_do (v := .pointer (some ⟨b23, f24 + 0, none⟩)) hA rfl rfl rfl (d_indexRow (k := 0) Tryz.underlying22 (by kernel_rfl) rfl rfl (by omega) hso25 (by omega)) ?_
 intro a hA
 refine seq_do (v := .int .u32 (((([d0]).getD 0 0 : Nat) : Int))) hA rfl rfl rfl (d_loadRow (hS.rd 3 rfl) hso25 hi26 SmB_is1_66 rfl) ?_
 intro a hA
 refine seq_do (v := .int .u64 (((d0 : Nat) : Int))) hA rfl rfl rfl (d_convert rfl (ar_conv Tryz.underlying66 Tryz.underlying61 (show IntKind.u64.wrap ((d0 : Nat) : Int) = ((d0 : Nat) : Int) from c32_u64 (by omega)))) ?_
 intro a hA
 refine seq_do (v := .int .u64 (((d0 : Nat) : Int))) hA rfl rfl rfl (d_bin rfl rfl (ar_add (show IntKind.u64.wrap (0 + ((d0 : Nat) : Int)) = ((d0 : Nat) : Int) from (in_u64 (by omega) (by omega)).trans (by omega)))) ?_
 intro a hA
 refine seq_do hA rfl rfl rfl (d_assign rfl) ?_
 intro a hA
 refine seq_end ?_
 refine hK22 _ _ ?_
 refine wp_region_lit ?_
 refine seq_do hA rfl rfl rfl (d_move rfl) ?_
 intro a hA
 refine seq_do (v := .int .i64 (-1)) hA rfl rfl rfl (d_bin rfl rfl (fun w => by kernel_rfl)) ?_
 intro a hA
 refine seq_do hA rfl rfl rfl (d_assign rfl) ?_
 intro a hA
 refine seq_end ?_
 refine hK19 _ _ ?_
 refine rounds_k (fun K27 hK27 => ?_)
 refine wp_seq_k (fun K28 hK28 => ?_)
 refine wp_seq_k (fun K29 hK29 => ?_)
 refine wp_region_lit ?_
 refine seq_do hA rfl rfl rfl (d_move rfl) ?_
 intro a hA
 refine seq_do (v := .bool false) hA rfl rfl rfl (d_bin rfl rfl (fun w => by kernel_rfl)) ?_
 intro a hA
 refine seq_end ?_
 refine hK29 _ _ ?_
 refine wp_cond_false (hA.ev rfl) ?_
 refine wp_exit ?_
 refine hK17 _ _ ?_
 refine wp_seq_k (fun K30 hK30 => ?_)
 refine wp_seq_k (fun K31 hK31 => ?_)
 refine wp_region_lit ?_
 refine seq_do (v := .pointer (some ⟨g2, 0, none⟩)) hA rfl rfl rfl (d_field SmB_fld_26_0 rfl rfl) ?_
 intro a hA
 refine seq_do (v := .pointer (some ⟨g2, 0, none⟩)) hA rfl rfl rfl (d_field SmB_fld_24_0 rfl rfl) ?_
 intro a hA
 refine seq_do hA rfl rfl rfl (d_load1 hS SmB_is1_4 rfl 0 rfl rfl) ?_
 intro a hA
 refine seq_end ?_
 refine hK31 _ _ ?_
 refine wp_cond_true (hA.ev rfl) ?_
 refine wp_seq_k (fun K32 hK32 => ?_)
 refine wp_seq_k (fun K33 hK33 => ?_)
 refine wp_region_lit ?_
 refine seq_do hA rfl rfl rfl (d_move rfl) ?_
 intro a hA
 refine seq_do (v := .bool false) hA rfl rfl rfl (d_bin rfl rfl (fun w => (bin_gtr w).trans (by rw [show (decide (9223372036854775808 < ((d0 : Nat) : Int))) = false from (decide_eq_false (by omega))]))) ?_
 intro a hA
 refine seq_end ?_
 refine hK33 _ _ ?_
 refine wp_cond_false (hA.ev rfl) ?_
 refine wp_skip ?_
 refine hK32 _ _ ?_
 refine wp_seq_k (fun K34 hK34 => ?_)
 refine wp_region_lit ?_
 refine seq_do hA rfl rfl rfl (d_move rfl) ?_
 intro a hA
 refine seq_do (v := .int .u64 (((d0 - 1 : Nat) : Int))) hA rfl rfl rfl (d_bin rfl rfl (ar_sub (show IntKind.u64.wrap (((d0 : Nat) : Int) - 1) = ((d0 - 1 : Nat) : Int) from (in_u64 (by omega) (by omega)).trans (by omega)))) ?_
 intro a hA
 refine seq_do (v := .int .i64 (((d0 - 1 : Nat) : Int))) hA rfl rfl rfl (d_convert rfl (ar_conv Tryz.underlying61 Tryz.underlying3 (in_i64 (by omega) (by omega)))) ?_
 intro a hA
 refine seq_do (v := .int .i64 (-(((d0 - 1 : Nat) : Int)))) hA rfl rfl rfl (d_un rfl (ar_neg (in_i64 (by omega) (by omega)))) ?_
 intro a hA
 refine seq_do (v := .int .i64 (-(((d0 - 1 : Nat) : Int)) - 1)) hA rfl rfl rfl (d_bin rfl rfl (bin_sub (i64In (by omega) (by omega)))) ?_
 intro a hA
 refine seq_do hA rfl rfl rfl (d_assign rfl) ?_
 intro a hA
 refine seq_do hA rfl rfl rfl (d_assign rfl) ?_
 intro a hA
 refine seq_end ?_
 refine hK34 _ _ ?_
 refine wp_ret ?_
 refine hret _ _ ?_
 refine ends (v := .tuple #[.int .i64 (-(((d0 - 1 : Nat) : Int)) - 1), .int .i64 0]) hA rfl (.cons (res_tmp rfl) (.cons (res_tmp rfl) .nil)) rfl ?_
 exact ⟨by rw [show (-(((d0 - 1 : Nat) : Int)) - 1) = sgn true (d0) from by simp only [sgn]; first | rfl | omega | (simp; omega)], hS.bel⟩
theorem rsmall2fL_any {w : World} {d0 d1 y x : Nat} (h0 : d0 < 4294967296) (h1 : d1 < 4294967296) (hy : d1 * 4294967296 = y) (hx : y + d0 = x) {a1 a2 a3 a4 : Option Addr} {ac1 ac2 ac3 ac4 : Nat} (ha : Nm w ((⟨false, [d0, d1], [1], false, [], [1]⟩ : Q6)) a1 ac1 a2 ac2 a3 ac3 a4 ac4) (hs : soundQ (⟨false, [d0, d1], [1], false, [], [1]⟩ : Q6) = true) (hw : wholeQ (⟨false, [d0, d1], [1], false, [], [1]⟩ : Q6) = true) (hk : (words (x)) = [d0, d1]) (hz : bl (x) ≤ 64) (hc : ¬ x ≤ 9223372036854775807) : Calls Tryz.prog 15 #[numV (⟨false, [d0, d1], [1], false, [], [1]⟩ : Q6) a1 ac1 a2 ac2 a3 ac3 a4 ac4] w fun e w' => e = .returned (.tuple #[.int .i64 0, .int .i64 4]) ∧ Below w.heap.size w w' := by
 have hS : St w w [] [(a4, [1]), (a3, []), (a2, [1]), (a1, [d0, d1])] [] := ((((St.start w).addR ha.s1.rd).addR ha.s2.rd).addR ha.s3.rd).addR ha.s4.rd
 refine walk_of (l := [(0, .agg #[.bool false, .slice a1 2 ac1, .slice a2 1 ac2, .bool false, .slice a3 0 ac3, .slice a4 1 ac4])]) Tryz.func15 rfl Tryz.ntmps15 rfl rfl ?_
 intro Q hret hnorm hP a hA
 refine wp_seq_k (fun K1 hK1 => ?_)
 refine wp_region_lit ?_
 refine seq_new (vs := [.bool false, .slice a1 2 ac1, .slice a2 1 ac2, .bool false, .slice a3 0 ac3, .slice a4 1 ac4]) (t := 26) hA hS rfl rfl rfl (fun g => .pointer (some ⟨g, 0, none⟩)) (d_box rfl rfl) rfl ?_
 intro g2 w3 hS a hA
 refine seq_do hA rfl rfl rfl (d_assign rfl) ?_
 intro a hA
 refine seq_do hA rfl rfl rfl (d_assign rfl) ?_
 intro a hA
 refine seq_end ?_
 refine hK1 _ _ ?_
 refine wp_seq_k (fun K4 hK4 => ?_)
 refine wp_seq_k (fun K5 hK5 => ?_)
 refine wp_region_lit ?_
 refine seq_do hA rfl rfl rfl (d_loadS hS SmB_isS_26 rfl 0 rfl (cs := [.bool false, .slice a1 2 ac1, .slice a2 1 ac2, .bool false, .slice a3 0 ac3, .slice a4 1 ac4]) rfl rfl) ?_
 intro a hA
 refine seq_call hA rfl rfl rfl (enters_func  rfl rfl (fun w => by kernel_rfl)) (rsoundQ_any (show Nm _ _ a1 ac1 a2 ac2 a3 ac3 a4 ac4 from ⟨⟨(hS.rd 3 rfl), ha.s1.nil, ha.s1.cap⟩, ⟨(hS.rd 2 rfl), ha.s2.nil, ha.s2.cap⟩, ⟨(hS.rd 1 rfl), ha.s3.nil, ha.s3.cap⟩, ⟨(hS.rd 0 rfl), ha.s4.nil, ha.s4.cap⟩⟩) ⟨Nat.le_of_ble_eq_true rfl, Nat.le_of_ble_eq_true rfl, Nat.le_of_ble_eq_true rfl, Nat.le_of_ble_eq_true rfl⟩ hs) ?_
 rintro _ w7 ⟨rfl, hb6⟩
 replace hS := hS.call hb6
 refine ⟨_, rfl, ?_⟩
 intro a hA
 refine seq_do (v := .bool false) hA rfl rfl rfl (d_un rfl un_not) ?_
 intro a hA
 refine seq_end ?_
 refine hK5 _ _ ?_
 refine wp_cond_false (hA.ev rfl) ?_
 refine wp_skip ?_
 refine hK4 _ _ ?_
 refine wp_seq_k (fun K8 hK8 => ?_)
 refine wp_seq_k (fun K9 hK9 => ?_)
 refine wp_region_lit ?_
 refine seq_do hA rfl rfl rfl (d_loadS hS SmB_isS_26 rfl 0 rfl (cs := [.bool false, .slice a1 2 ac1, .slice a2 1 ac2, .bool false, .slice a3 0 ac3, .slice a4 1 ac4]) rfl rfl) ?_
 intro a hA
 refine seq_call hA rfl rfl rfl (enters_func  rfl rfl (fun w => by kernel_rfl)) (rwholeQ_any (show Nm _ _ a1 ac1 a2 ac2 a3 ac3 a4 ac4 from ⟨⟨(hS.rd 3 rfl), ha.s1.nil, ha.s1.cap⟩, ⟨(hS.rd 2 rfl), ha.s2.nil, ha.s2.cap⟩, ⟨(hS.rd 1 rfl), ha.s3.nil, ha.s3.cap⟩, ⟨(hS.rd 0 rfl), ha.s4.nil, ha.s4.cap⟩⟩) ⟨Nat.le_of_ble_eq_true rfl, Nat.le_of_ble_eq_true rfl, Nat.le_of_ble_eq_true rfl, Nat.le_of_ble_eq_true rfl⟩ hw) ?_
 rintro _ w11 ⟨rfl, hb10⟩
 replace hS := hS.call hb10
 refine ⟨_, rfl, ?_⟩
 intro a hA
 refine seq_do (v := .bool false) hA rfl rfl rfl (d_un rfl un_not) ?_
 intro a hA
 refine seq_end ?_
 refine hK9 _ _ ?_
 refine wp_cond_false (hA.ev rfl) ?_
 refine wp_skip ?_
 refine hK8 _ _ ?_
 refine wp_seq_k (fun K12 hK12 => ?_)
 refine wp_seq_k (fun K13 hK13 => ?_)
 refine wp_region_lit ?_
 refine seq_do (v := .pointer (some ⟨g2, 0, none⟩)) hA rfl rfl rfl (d_field SmB_fld_26_0 rfl rfl) ?_
 intro a hA
 refine seq_do (v := .pointer (some ⟨g2, 1, none⟩)) hA rfl rfl rfl (d_field SmB_fld_24_1 rfl rfl) ?_
 intro a hA
 refine seq_do hA rfl rfl rfl (d_load1 hS SmB_is1_22 rfl 0 rfl rfl) ?_
 intro a hA
 refine seq_call hA rfl rfl rfl (enters_func  rfl rfl (fun w => by kernel_rfl)) ((show Calls Tryz.prog 53 #[.slice a1 2 ac1] _ (fun e w' => e = .returned (.int .i64 ((bl (x) : Nat) : Int)) ∧ w' = _) from (by have h9 := size_any (x := x) ac1 (show Rd _ a1 (words (x)) from (by rw [hk]; exact (hS.rd 3 rfl))) (by rw [hk]; exact Nat.le_of_ble_eq_true rfl); rw [hk] at h9; exact h9))) ?_
 rintro _ w15 ⟨rfl, hb14⟩
 replace hb14 := below_eq hb14
 replace hS := hS.call hb14
 refine ⟨_, rfl, ?_⟩
 intro a hA
 refine seq_do (v := .bool false) hA rfl rfl rfl (d_bin rfl rfl (fun w => (bin_gtr w).trans (by rw [show (decide (64 < ((bl (x) : Nat) : Int))) = false from (decide_eq_false (by omega))]))) ?_
 intro a hA
 refine seq_end ?_
 refine hK13 _ _ ?_
 refine wp_cond_false (hA.ev rfl) ?_
 refine wp_skip ?_
 refine hK12 _ _ ?_
 refine wp_seq_k (fun K16 hK16 => ?_)
 refine wp_region_lit ?_
 refine seq_do hA rfl rfl rfl (d_assign rfl) ?_
 intro a hA
 refine seq_end ?_
 refine hK16 _ _ ?_
 refine wp_seq_k (fun K17 hK17 => ?_)
 refine wp_seq_k (fun K18 hK18 => ?_)
 refine wp_region_lit ?_
 refine seq_do (v := .pointer (some ⟨g2, 0, none⟩)) hA rfl rfl rfl (d_field SmB_fld_26_0 rfl rfl) ?_
 intro a hA
 refine seq_do (v := .pointer (some ⟨g2, 1, none⟩)) hA rfl rfl rfl (d_field SmB_fld_24_1 rfl rfl) ?_
 intro a hA
 refine seq_do hA rfl rfl rfl (d_load1 hS SmB_is1_22 rfl 0 rfl rfl) ?_
 intro a hA
 refine seq_do (v := .int .i64 2) hA rfl rfl rfl (d_len Tryz.underlying22 rfl) ?_
 intro a hA
 refine seq_do (v := .int .i64 1) hA rfl rfl rfl (d_bin rfl rfl (fun w => by kernel_rfl)) ?_
 intro a hA
 refine seq_do hA rfl rfl rfl (d_assign rfl) ?_
 intro a hA
 refine seq_end ?_
 refine hK18 _ _ ?_
 refine wp_block ?_
 refine wp_loop_rounds 12 ?_
 refine rounds_k (fun K19 hK19 => ?_)
 refine wp_seq_k (fun K20 hK20 => ?_)
 refine wp_seq_k (fun K21 hK21 => ?_)
 refine wp_region_lit ?_
 refine seq_do hA rfl rfl rfl (d_move rfl) ?_
 intro a hA
 refine seq_do (v := .bool true) hA rfl rfl rfl (d_bin rfl rfl (fun w => by kernel_rfl)) ?_
 intro a hA
 refine seq_end ?_
 refine hK21 _ _ ?_
 refine wp_cond_true (hA.ev rfl) ?_
 refine wp_skip ?_
 refine hK20 _ _ ?_
 refine wp_seq_k (fun K22 hK22 => ?_)
 refine wp_block ?_
 refine wp_region_lit ?_
 refine seq_do hA rfl rfl rfl (d_move rfl) ?_
 intro a hA
 refine seq_do (v := .int .u64 0) hA rfl rfl rfl (d_bin rfl rfl (ar_mul (by decide))) ?_
 intro a hA
 refine seq_do (v := .pointer (some ⟨g2, 0, none⟩)) hA rfl rfl rfl (d_field SmB_fld_26_0 rfl rfl) ?_
 intro a hA
 refine seq_do (v := .pointer (some ⟨g2, 1, none⟩)) hA rfl rfl rfl (d_field SmB_fld_24_1 rfl rfl) ?_
 intro a hA
 refine seq_do hA rfl rfl rfl (d_load1 hS SmB_is1_22 rfl 0 rfl rfl) ?_
 intro a hA
 refine seq_do hA rfl rfl rfl (d_move rfl) ?_
 intro a hA
 have hi26 : 1 < ([d0, d1]).length := by first | (simp; done) | omega
 obtain ⟨b23, f24, hso25⟩ := Rd.addr (hS.rd 3 rfl) hi26
 refine seq_do (v := .pointer (some ⟨b23, f24 + 1, none⟩)) hA rfl rfl rfl (d_indexRow (k := 1) Tryz.underlying22 (by kernel_rfl) rfl rfl (by omega) hso25 (by omega)) ?_
 intro a hA
 refine seq_do (v := .int .u32 (((([d0, d1]).getD 1 0 : Nat) : Int))) hA rfl rfl rfl (d_loadRow (hS.rd 3 rfl) hso25 hi26 SmB_is1_66 rfl) ?_
 intro a hA
 refine seq_do (v := .int .u64 (((d1 : Nat) : Int))) hA rfl rfl rfl (d_convert rfl (ar_conv Tryz.underlying66 Tryz.underlying61 (show IntKind.u64.wrap ((d1 : Nat) : Int) = ((d1 : Nat) : Int) from c32_u64 (by omega)))) ?_
 intro a hA
 refine seq_do (v := .int .u64 (((d1 : Nat) : Int))) hA rfl rfl rfl (d_bin rfl rfl (ar_add (show IntKind.u64.wrap (0 + ((d1 : Nat) : Int)) = ((d1 : Nat) : Int) from (in_u64 (by omega) (by omega)).trans (by omega)))) ?_
 intro a hA
 refine seq_do hA rfl rfl rfl (d_assign rfl) ?_
 intro a hA
 refine seq_end ?_
 refine hK22 _ _ ?_
 refine wp_region_lit ?_
 refine seq_do hA rfl rfl rfl (d_move rfl) ?_
 intro a hA
 refine seq_do (v := .int .i64 0) hA rfl rfl rfl (d_bin rfl rfl (fun w => by kernel_rfl)) ?_
 intro a hA
 refine seq_do hA rfl rfl rfl (d_assign rfl) ?_
 intro a hA
 refine seq_end ?_
 refine hK19 _ _ ?_
 refine rounds_k (fun K27 hK27 => ?_)
 refine wp_seq_k (fun K28 hK28 => ?_)
 refine wp_seq_k (fun K29 hK29 => ?_)
 refine wp_region_lit ?_
 refine seq_do hA rfl rfl rfl (d_move rfl) ?_
 intro a hA
 refine seq_do (v := .bool true) hA rfl rfl rfl (d_bin rfl rfl (fun w => by kernel_rfl)) ?_
 intro a hA
 refine seq_end ?_
 refine hK29 _ _ ?_
 refine wp_cond_true (hA.ev rfl) ?_
 refine wp_skip ?_
 refine hK28 _ _ ?_
 refine wp_seq_k (fun K30 hK30 => ?_)
 refine wp_block ?_
 refine wp_region_lit ?_
 refine seq_do hA rfl rfl rfl (d_move rfl) ?_
 intro a hA
 refine seq_do (v := .int .u64 (((y : Nat) : Int))) hA rfl rfl rfl (d_bin rfl rfl (ar_mul (show IntKind.u64.wrap (((d1 : Nat) : Int) * 4294967296) = ((y : Nat) : Int) from (in_u64 (by omega) (by omega)).trans (by omega)))) ?_
 intro a hA
 refine seq_do (v := .pointer (some ⟨g2, 0, none⟩)) hA rfl rfl rfl (d_field SmB_fld_26_0 rfl rfl) ?_
 intro a hA
 refine seq_do (v := .pointer (some ⟨g2, 1, none⟩)) hA rfl rfl rfl (d_field SmB_fld_24_1 rfl rfl) ?_
 intro a hA
 refine seq_do hA rfl rfl rfl (d_load1 hS SmB_is1_22 rfl 0 rfl rfl) ?_
 intro a hA
 refine seq_do hA rfl rfl rfl (d_move rfl) ?_
 intro a hA
 have hi34 : 0 < ([d0, d1]).length := by first | (simp; done) | omega
 obtain ⟨b31, f32, hso33⟩ := Rd.addr (hS.rd 3 rfl) hi34
 refine seq_do (v := .pointer (some ⟨b31, f32 + 0, none⟩)) hA rfl rfl rfl (d_indexRow (k := 0) Tryz.underlying22 (by kernel_rfl) rfl rfl (by omega) hso33 (by omega)) ?_
 intro a hA
 refine seq_do (v := .int .u32 (((([d0, d1]).getD 0 0 : Nat) : Int))) hA rfl rfl rfl (d_loadRow (hS.rd 3 rfl) hso33 hi34 SmB_is1_66 rfl) ?_
 intro a hA
 refine seq_do (v := .int .u64 (((d0 : Nat) : Int))) hA rfl rfl rfl (d_convert rfl (ar_conv Tryz.underlying66 Tryz.underlying61 (show IntKind.u64.wrap ((d0 : Nat) : Int) = ((d0 : Nat) : Int) from c32_u64 (by omega)))) ?_
 intro a hA
 refine seq_do (v := .int .u64 (((x : Nat) : Int))) hA rfl rfl rfl (d_bin rfl rfl (ar_add (show IntKind.u64.wrap (((y : Nat) : Int) + ((d0 : Nat) : Int)) = ((x : Nat) : Int) from (in_u64 (by omega) (by omega)).trans (by omega)))) ?_
 intro a hA
 refine seq_do hA rfl rfl rfl (d_assign rfl) ?_
 intro a hA
 refine seq_end ?_
 refine hK30 _ _ ?_
 refine wp_region_lit ?_
 refine seq_do hA rfl rfl rfl (d_move rfl) ?_
 intro a hA
 refine seq_do (v := .int .i64 (-1)) hA rfl rfl rfl (d_bin rfl rfl (fun w => by kernel_rfl)) ?_
 intro a hA
 refine seq_do hA rfl rfl rfl (d_assign rfl) ?_
 intro a hA
 refine seq_end ?_
 refine hK27 _ _ ?_
 refine rounds_k (fun K35 hK35 => ?_)
 refine wp_seq_k (fun K36 hK36 => ?_)
 refine wp_seq_k (fun K37 hK37 => ?_)
 refine wp_region_lit ?_
 refine seq_do hA rfl rfl rfl (d_move rfl) ?_
 intro a hA
 refine seq_do (v := .bool false) hA rfl rfl rfl (d_bin rfl rfl (fun w => by kernel_rfl)) ?_
 intro a hA
 refine seq_end ?_
 refine hK37 _ _ ?_
 refine wp_cond_false (hA.ev rfl) ?_
 refine wp_exit ?_
 refine hK17 _ _ ?_
 refine wp_seq_k (fun K38 hK38 => ?_)
 refine wp_seq_k (fun K39 hK39 => ?_)
 refine wp_region_lit ?_
 refine seq_do (v := .pointer (some ⟨g2, 0, none⟩)) hA rfl rfl rfl (d_field SmB_fld_26_0 rfl rfl) ?_
 intro a hA
 refine seq_do (v := .pointer (some ⟨g2, 0, none⟩)) hA rfl rfl rfl (d_field SmB_fld_24_0 rfl rfl) ?_
 intro a hA
 refine seq_do hA rfl rfl rfl (d_load1 hS SmB_is1_4 rfl 0 rfl rfl) ?_
 intro a hA
 refine seq_end ?_
 refine hK39 _ _ ?_
 refine wp_cond_false (hA.ev rfl) ?_
 refine wp_skip ?_
 refine hK38 _ _ ?_
 refine wp_seq_k (fun K40 hK40 => ?_)
 refine wp_seq_k (fun K41 hK41 => ?_)
 refine wp_region_lit ?_
 refine seq_do hA rfl rfl rfl (d_move rfl) ?_
 intro a hA
 refine seq_do (v := .bool true) hA rfl rfl rfl (d_bin rfl rfl (fun w => (bin_geq w).trans (by rw [show (decide (9223372036854775808 ≤ ((x : Nat) : Int))) = true from (decide_eq_true (by omega))]))) ?_
 intro a hA
 refine seq_end ?_
 refine hK41 _ _ ?_
 refine wp_cond_true (hA.ev rfl) ?_
 refine wp_seq_k (fun K42 hK42 => ?_)
 refine wp_region_lit ?_
 refine seq_do hA rfl rfl rfl (d_assign rfl) ?_
 intro a hA
 refine seq_do hA rfl rfl rfl (d_assign rfl) ?_
 intro a hA
 refine seq_end ?_
 refine hK42 _ _ ?_
 refine wp_ret ?_
 refine hret _ _ ?_
 refine ends (v := .tuple #[.int .i64 0, .int .i64 4]) hA rfl (.cons (res_tmp rfl) (.cons (res_tmp rfl) .nil)) rfl ?_
 exact ⟨rfl, hS.bel⟩
theorem rsmall2fS_any {w : World} {d0 d1 y x : Nat} (h0 : d0 < 4294967296) (h1 : d1 < 4294967296) (hy : d1 * 4294967296 = y) (hx : y + d0 = x) {a1 a2 a3 a4 : Option Addr} {ac1 ac2 ac3 ac4 : Nat} (ha : Nm w ((⟨false, [d0, d1], [1], false, [], [1]⟩ : Q6)) a1 ac1 a2 ac2 a3 ac3 a4 ac4) (hs : soundQ (⟨false, [d0, d1], [1], false, [], [1]⟩ : Q6) = true) (hw : wholeQ (⟨false, [d0, d1], [1], false, [], [1]⟩ : Q6) = true) (hk : (words (x)) = [d0, d1]) (hz : bl (x) ≤ 64) (hc : x ≤ 9223372036854775807) : Calls Tryz.prog 15 #[numV (⟨false, [d0, d1], [1], false, [], [1]⟩ : Q6) a1 ac1 a2 ac2 a3 ac3 a4 ac4] w fun e w' => e = .returned (.tuple #[.int .i64 (sgn false (x)), .int .i64 0]) ∧ Below w.heap.size w w' := by
 have hS : St w w [] [(a4, [1]), (a3, []), (a2, [1]), (a1, [d0, d1])] [] := ((((St.start w).addR ha.s1.rd).addR ha.s2.rd).addR ha.s3.rd).addR ha.s4.rd
 refine walk_of (l := [(0, .agg #[.bool false, .slice a1 2 ac1, .slice a2 1 ac2, .bool false, .slice a3 0 ac3, .slice a4 1 ac4])]) Tryz.func15 rfl Tryz.ntmps15 rfl rfl ?_
 intro Q hret hnorm hP a hA
 refine wp_seq_k (fun K1 hK1 => ?_)
 refine wp_region_lit ?_
 refine seq_new (vs := [.bool false, .slice a1 2 ac1, .slice a2 1 ac2, .bool false, .slice a3 0 ac3, .slice a4 1 ac4]) (t := 26) hA hS rfl rfl rfl (fun g => .pointer (some ⟨g, 0, none⟩)) (d_box rfl rfl) rfl ?_
 intro g2 w3 hS a hA
 refine seq_do hA rfl rfl rfl (d_assign rfl) ?_
 intro a hA
 refine seq_do hA rfl rfl rfl (d_assign rfl) ?_
 intro a hA
 refine seq_end ?_
 refine hK1 _ _ ?_
 refine wp_seq_k (fun K4 hK4 => ?_)
 refine wp_seq_k (fun K5 hK5 => ?_)
 refine wp_region_lit ?_
 refine seq_do hA rfl rfl rfl (d_loadS hS SmB_isS_26 rfl 0 rfl (cs := [.bool false, .slice a1 2 ac1, .slice a2 1 ac2, .bool false, .slice a3 0 ac3, .slice a4 1 ac4]) rfl rfl) ?_
 intro a hA
 refine seq_call hA rfl rfl rfl (enters_func  rfl rfl (fun w => by kernel_rfl)) (rsoundQ_any (show Nm _ _ a1 ac1 a2 ac2 a3 ac3 a4 ac4 from ⟨⟨(hS.rd 3 rfl), ha.s1.nil, ha.s1.cap⟩, ⟨(hS.rd 2 rfl), ha.s2.nil, ha.s2.cap⟩, ⟨(hS.rd 1 rfl), ha.s3.nil, ha.s3.cap⟩, ⟨(hS.rd 0 rfl), ha.s4.nil, ha.s4.cap⟩⟩) ⟨Nat.le_of_ble_eq_true rfl, Nat.le_of_ble_eq_true rfl, Nat.le_of_ble_eq_true rfl, Nat.le_of_ble_eq_true rfl⟩ hs) ?_
 rintro _ w7 ⟨rfl, hb6⟩
 replace hS := hS.call hb6
 refine ⟨_, rfl, ?_⟩
 intro a hA
 refine seq_do (v := .bool false) hA rfl rfl rfl (d_un rfl un_not) ?_
 intro a hA
 refine seq_end ?_
 refine hK5 _ _ ?_
 refine wp_cond_false (hA.ev rfl) ?_
 refine wp_skip ?_
 refine hK4 _ _ ?_
 refine wp_seq_k (fun K8 hK8 => ?_)
 refine wp_seq_k (fun K9 hK9 => ?_)
 refine wp_region_lit ?_
 refine seq_do hA rfl rfl rfl (d_loadS hS SmB_isS_26 rfl 0 rfl (cs := [.bool false, .slice a1 2 ac1, .slice a2 1 ac2, .bool false, .slice a3 0 ac3, .slice a4 1 ac4]) rfl rfl) ?_
 intro a hA
 refine seq_call hA rfl rfl rfl (enters_func  rfl rfl (fun w => by kernel_rfl)) (rwholeQ_any (show Nm _ _ a1 ac1 a2 ac2 a3 ac3 a4 ac4 from ⟨⟨(hS.rd 3 rfl), ha.s1.nil, ha.s1.cap⟩, ⟨(hS.rd 2 rfl), ha.s2.nil, ha.s2.cap⟩, ⟨(hS.rd 1 rfl), ha.s3.nil, ha.s3.cap⟩, ⟨(hS.rd 0 rfl), ha.s4.nil, ha.s4.cap⟩⟩) ⟨Nat.le_of_ble_eq_true rfl, Nat.le_of_ble_eq_true rfl, Nat.le_of_ble_eq_true rfl, Nat.le_of_ble_eq_true rfl⟩ hw) ?_
 rintro _ w11 ⟨rfl, hb10⟩
 replace hS := hS.call hb10
 refine ⟨_, rfl, ?_⟩
 intro a hA
 refine seq_do (v := .bool false) hA rfl rfl rfl (d_un rfl un_not) ?_
 intro a hA
 refine seq_end ?_
 refine hK9 _ _ ?_
 refine wp_cond_false (hA.ev rfl) ?_
 refine wp_skip ?_
 refine hK8 _ _ ?_
 refine wp_seq_k (fun K12 hK12 => ?_)
 refine wp_seq_k (fun K13 hK13 => ?_)
 refine wp_region_lit ?_
 refine seq_do (v := .pointer (some ⟨g2, 0, none⟩)) hA rfl rfl rfl (d_field SmB_fld_26_0 rfl rfl) ?_
 intro a hA
 refine seq_do (v := .pointer (some ⟨g2, 1, none⟩)) hA rfl rfl rfl (d_field SmB_fld_24_1 rfl rfl) ?_
 intro a hA
 refine seq_do hA rfl rfl rfl (d_load1 hS SmB_is1_22 rfl 0 rfl rfl) ?_
 intro a hA
 refine seq_call hA rfl rfl rfl (enters_func  rfl rfl (fun w => by kernel_rfl)) ((show Calls Tryz.prog 53 #[.slice a1 2 ac1] _ (fun e w' => e = .returned (.int .i64 ((bl (x) : Nat) : Int)) ∧ w' = _) from (by have h9 := size_any (x := x) ac1 (show Rd _ a1 (words (x)) from (by rw [hk]; exact (hS.rd 3 rfl))) (by rw [hk]; exact Nat.le_of_ble_eq_true rfl); rw [hk] at h9; exact h9))) ?_
 rintro _ w15 ⟨rfl, hb14⟩
 replace hb14 := below_eq hb14
 replace hS := hS.call hb14
 refine ⟨_, rfl, ?_⟩
 intro a hA
 refine seq_do (v := .bool false) hA rfl rfl rfl (d_bin rfl rfl (fun w => (bin_gtr w).trans (by rw [show (decide (64 < ((bl (x) : Nat) : Int))) = false from (decide_eq_false (by omega))]))) ?_
 intro a hA
 refine seq_end ?_
 refine hK13 _ _ ?_
 refine wp_cond_false (hA.ev rfl) ?_
 refine wp_skip ?_
 refine hK12 _ _ ?_
 refine wp_seq_k (fun K16 hK16 => ?_)
 refine wp_region_lit ?_
 refine seq_do hA rfl rfl rfl (d_assign rfl) ?_
 intro a hA
 refine seq_end ?_
 refine hK16 _ _ ?_
 refine wp_seq_k (fun K17 hK17 => ?_)
 refine wp_seq_k (fun K18 hK18 => ?_)
 refine wp_region_lit ?_
 refine seq_do (v := .pointer (some ⟨g2, 0, none⟩)) hA rfl rfl rfl (d_field SmB_fld_26_0 rfl rfl) ?_
 intro a hA
 refine seq_do (v := .pointer (some ⟨g2, 1, none⟩)) hA rfl rfl rfl (d_field SmB_fld_24_1 rfl rfl) ?_
 intro a hA
 refine seq_do hA rfl rfl rfl (d_load1 hS SmB_is1_22 rfl 0 rfl rfl) ?_
 intro a hA
 refine seq_do (v := .int .i64 2) hA rfl rfl rfl (d_len Tryz.underlying22 rfl) ?_
 intro a hA
 refine seq_do (v := .int .i64 1) hA rfl rfl rfl (d_bin rfl rfl (fun w => by kernel_rfl)) ?_
 intro a hA
 refine seq_do hA rfl rfl rfl (d_assign rfl) ?_
 intro a hA
 refine seq_end ?_
 refine hK18 _ _ ?_
 refine wp_block ?_
 refine wp_loop_rounds 12 ?_
 refine rounds_k (fun K19 hK19 => ?_)
 refine wp_seq_k (fun K20 hK20 => ?_)
 refine wp_seq_k (fun K21 hK21 => ?_)
 refine wp_region_lit ?_
 refine seq_do hA rfl rfl rfl (d_move rfl) ?_
 intro a hA
 refine seq_do (v := .bool true) hA rfl rfl rfl (d_bin rfl rfl (fun w => by kernel_rfl)) ?_
 intro a hA
 refine seq_end ?_
 refine hK21 _ _ ?_
 refine wp_cond_true (hA.ev rfl) ?_
 refine wp_skip ?_
 refine hK20 _ _ ?_
 refine wp_seq_k (fun K22 hK22 => ?_)
 refine wp_block ?_
 refine wp_region_lit ?_
 refine seq_do hA rfl rfl rfl (d_move rfl) ?_
 intro a hA
 refine seq_do (v := .int .u64 0) hA rfl rfl rfl (d_bin rfl rfl (ar_mul (by decide))) ?_
 intro a hA
 refine seq_do (v := .pointer (some ⟨g2, 0, none⟩)) hA rfl rfl rfl (d_field SmB_fld_26_0 rfl rfl) ?_
 intro a hA
 refine seq_do (v := .pointer (some ⟨g2, 1, none⟩)) hA rfl rfl rfl (d_field SmB_fld_24_1 rfl rfl) ?_
 intro a hA
 refine seq_do hA rfl rfl rfl (d_load1 hS SmB_is1_22 rfl 0 rfl rfl) ?_
 intro a hA
 refine seq_do hA rfl rfl rfl (d_move rfl) ?_
 intro a hA
 have hi26 : 1 < ([d0, d1]).length := by first | (simp; done) | omega
 obtain ⟨b23, f24, hso25⟩ := Rd.addr (hS.rd 3 rfl) hi26
 refine seq_do (v := .pointer (some ⟨b23, f24 + 1, none⟩)) hA rfl rfl rfl (d_indexRow (k := 1) Tryz.underlying22 (by kernel_rfl) rfl rfl (by omega) hso25 (by omega)) ?_
 intro a hA
 refine seq_do (v := .int .u32 (((([d0, d1]).getD 1 0 : Nat) : Int))) hA rfl rfl rfl (d_loadRow (hS.rd 3 rfl) hso25 hi26 SmB_is1_66 rfl) ?_
 intro a hA
 refine seq_do (v := .int .u64 (((d1 : Nat) : Int))) hA rfl rfl rfl (d_convert rfl (ar_conv Tryz.underlying66 Tryz.underlying61 (show IntKind.u64.wrap ((d1 : Nat) : Int) = ((d1 : Nat) : Int) from c32_u64 (by omega)))) ?_
 intro a hA
 refine seq_do (v := .int .u64 (((d1 : Nat) : Int))) hA rfl rfl rfl (d_bin rfl rfl (ar_add (show IntKind.u64.wrap (0 + ((d1 : Nat) : Int)) = ((d1 : Nat) : Int) from (in_u64 (by omega) (by omega)).trans (by omega)))) ?_
 intro a hA
 refine seq_do hA rfl rfl rfl (d_assign rfl) ?_
 intro a hA
 refine seq_end ?_
 refine hK22 _ _ ?_
 refine wp_region_lit ?_
 refine seq_do hA rfl rfl rfl (d_move rfl) ?_
 intro a hA
 refine seq_do (v := .int .i64 0) hA rfl rfl rfl (d_bin rfl rfl (fun w => by kernel_rfl)) ?_
 intro a hA
 refine seq_do hA rfl rfl rfl (d_assign rfl) ?_
 intro a hA
 refine seq_end ?_
 refine hK19 _ _ ?_
 refine rounds_k (fun K27 hK27 => ?_)
 refine wp_seq_k (fun K28 hK28 => ?_)
 refine wp_seq_k (fun K29 hK29 => ?_)
 refine wp_region_lit ?_
 refine seq_do hA rfl rfl rfl (d_move rfl) ?_
 intro a hA
 refine seq_do (v := .bool true) hA rfl rfl rfl (d_bin rfl rfl (fun w => by kernel_rfl)) ?_
 intro a hA
 refine seq_end ?_
 refine hK29 _ _ ?_
 refine wp_cond_true (hA.ev rfl) ?_
 refine wp_skip ?_
 refine hK28 _ _ ?_
 refine wp_seq_k (fun K30 hK30 => ?_)
 refine wp_block ?_
 refine wp_region_lit ?_
 refine seq_do hA rfl rfl rfl (d_move rfl) ?_
 intro a hA
 refine seq_do (v := .int .u64 (((y : Nat) : Int))) hA rfl rfl rfl (d_bin rfl rfl (ar_mul (show IntKind.u64.wrap (((d1 : Nat) : Int) * 4294967296) = ((y : Nat) : Int) from (in_u64 (by omega) (by omega)).trans (by omega)))) ?_
 intro a hA
 refine seq_do (v := .pointer (some ⟨g2, 0, none⟩)) hA rfl rfl rfl (d_field SmB_fld_26_0 rfl rfl) ?_
 intro a hA
 refine seq_do (v := .pointer (some ⟨g2, 1, none⟩)) hA rfl rfl rfl (d_field SmB_fld_24_1 rfl rfl) ?_
 intro a hA
 refine seq_do hA rfl rfl rfl (d_load1 hS SmB_is1_22 rfl 0 rfl rfl) ?_
 intro a hA
 refine seq_do hA rfl rfl rfl (d_move rfl) ?_
 intro a hA
 have hi34 : 0 < ([d0, d1]).length := by first | (simp; done) | omega
 obtain ⟨b31, f32, hso33⟩ := Rd.addr (hS.rd 3 rfl) hi34
 refine seq_do (v := .pointer (some ⟨b31, f32 + 0, none⟩)) hA rfl rfl rfl (d_indexRow (k := 0) Tryz.underlying22 (by kernel_rfl) rfl rfl (by omega) hso33 (by omega)) ?_
 intro a hA
 refine seq_do (v := .int .u32 (((([d0, d1]).getD 0 0 : Nat) : Int))) hA rfl rfl rfl (d_loadRow (hS.rd 3 rfl) hso33 hi34 SmB_is1_66 rfl) ?_
 intro a hA
 refine seq_do (v := .int .u64 (((d0 : Nat) : Int))) hA rfl rfl rfl (d_convert rfl (ar_conv Tryz.underlying66 Tryz.underlying61 (show IntKind.u64.wrap ((d0 : Nat) : Int) = ((d0 : Nat) : Int) from c32_u64 (by omega)))) ?_
 intro a hA
 refine seq_do (v := .int .u64 (((x : Nat) : Int))) hA rfl rfl rfl (d_bin rfl rfl (ar_add (show IntKind.u64.wrap (((y : Nat) : Int) + ((d0 : Nat) : Int)) = ((x : Nat) : Int) from (in_u64 (by omega) (by omega)).trans (by omega)))) ?_
 intro a hA
 refine seq_do hA rfl rfl rfl (d_assign rfl) ?_
 intro a hA
 refine seq_end ?_
 refine hK30 _ _ ?_
 refine wp_region_lit ?_
 refine seq_do hA rfl rfl rfl (d_move rfl) ?_
 intro a hA
 refine seq_do (v := .int .i64 (-1)) hA rfl rfl rfl (d_bin rfl rfl (fun w => by kernel_rfl)) ?_
 intro a hA
 refine seq_do hA rfl rfl rfl (d_assign rfl) ?_
 intro a hA
 refine seq_end ?_
 refine hK27 _ _ ?_
 refine rounds_k (fun K35 hK35 => ?_)
 refine wp_seq_k (fun K36 hK36 => ?_)
 refine wp_seq_k (fun K37 hK37 => ?_)
 refine wp_region_lit ?_
 refine seq_do hA rfl rfl rfl (d_move rfl) ?_
 intro a hA
 refine seq_do (v := .bool false) hA rfl rfl rfl (d_bin rfl rfl (fun w => by kernel_rfl)) ?_
 intro a hA
 refine seq_end ?_
 refine hK37 _ _ ?_
 refine wp_cond_false (hA.ev rfl) ?_
 refine wp_exit ?_
 refine hK17 _ _ ?_
 refine wp_seq_k (fun K38 hK38 => ?_)
 refine wp_seq_k (fun K39 hK39 => ?_)
 refine wp_region_lit ?_
 refine seq_do (v := .pointer (some ⟨g2, 0, none⟩)) hA rfl rfl rfl (d_field SmB_fld_26_0 rfl rfl) ?_
 intro a hA
 refine seq_do (v := .pointer (some ⟨g2, 0, none⟩)) hA rfl rfl rfl (d_field SmB_fld_24_0 rfl rfl) ?_
 intro a hA
 refine seq_do hA rfl rfl rfl (d_load1 hS SmB_is1_4 rfl 0 rfl rfl) ?_
 intro a hA
 refine seq_end ?_
 refine hK39 _ _ ?_
 refine wp_cond_false (hA.ev rfl) ?_
 refine wp_skip ?_
 refine hK38 _ _ ?_
 refine wp_seq_k (fun K40 hK40 => ?_)
 refine wp_seq_k (fun K41 hK41 => ?_)
 refine wp_region_lit ?_
 refine seq_do hA rfl rfl rfl (d_move rfl) ?_
 intro a hA
 refine seq_do (v := .bool false) hA rfl rfl rfl (d_bin rfl rfl (fun w => (bin_geq w).trans (by rw [show (decide (9223372036854775808 ≤ ((x : Nat) : Int))) = false from (decide_eq_false (by omega))]))) ?_
 intro a hA
 refine seq_end ?_
 refine hK41 _ _ ?_
 refine wp_cond_false (hA.ev rfl) ?_
 refine wp_skip ?_
 refine hK40 _ _ ?_
 refine wp_seq_k (fun K42 hK42 => ?_)
 refine wp_region_lit ?_
 refine seq_do hA rfl rfl rfl (d_move rfl) ?_
 intro a hA
 refine seq_do (v := .int .i64 (((x : Nat) : Int))) hA rfl rfl rfl (d_convert rfl (ar_conv Tryz.underlying61 Tryz.underlying3 (in_i64 (by omega) (by omega)))) ?_
 intro a hA
 refine seq_do hA rfl rfl rfl (d_assign rfl) ?_
 intro a hA
 refine seq_do hA rfl rfl rfl (d_assign rfl) ?_
 intro a hA
 refine seq_end ?_
 refine hK42 _ _ ?_
 refine wp_ret ?_
 refine hret _ _ ?_
 refine ends (v := .tuple #[.int .i64 (((x : Nat) : Int)), .int .i64 0]) hA rfl (.cons (res_tmp rfl) (.cons (res_tmp rfl) .nil)) rfl ?_
 exact ⟨by rw [show (((x : Nat) : Int)) = sgn false (x) from by simp only [sgn]; first | rfl | omega | (simp; omega)], hS.bel⟩
theorem rsmall2tL_any {w : World} {d0 d1 y x : Nat} (h0 : d0 < 4294967296) (h1 : d1 < 4294967296) (hy : d1 * 4294967296 = y) (hx : y + d0 = x) {a1 a2 a3 a4 : Option Addr} {ac1 ac2 ac3 ac4 : Nat} (ha : Nm w ((⟨true, [d0, d1], [1], false, [], [1]⟩ : Q6)) a1 ac1 a2 ac2 a3 ac3 a4 ac4) (hs : soundQ (⟨true, [d0, d1], [1], false, [], [1]⟩ : Q6) = true) (hw : wholeQ (⟨true, [d0, d1], [1], false, [], [1]⟩ : Q6) = true) (hk : (words (x)) = [d0, d1]) (hz : bl (x) ≤ 64) (hc : ¬ x ≤ 9223372036854775808) (hp : 1 ≤ x) : Calls Tryz.prog 15 #[numV (⟨true, [d0, d1], [1], false, [], [1]⟩ : Q6) a1 ac1 a2 ac2 a3 ac3 a4 ac4] w fun e w' => e = .returned (.tuple #[.int .i64 0, .int .i64 4]) ∧ Below w.heap.size w w' := by
 have hS : St w w [] [(a4, [1]), (a3, []), (a2, [1]), (a1, [d0, d1])] [] := ((((St.start w).addR ha.s1.rd).addR ha.s2.rd).addR ha.s3.rd).addR ha.s4.rd
 refine walk_of (l := [(0, .agg #[.bool true, .slice a1 2 ac1, .slice a2 1 ac2, .bool false, .slice a3 0 ac3, .slice a4 1 ac4])]) Tryz.func15 rfl Tryz.ntmps15 rfl rfl ?_
 intro Q hret hnorm hP a hA
 refine wp_seq_k (fun K1 hK1 => ?_)
 refine wp_region_lit ?_
 refine seq_new (vs := [.bool true, .slice a1 2 ac1, .slice a2 1 ac2, .bool false, .slice a3 0 ac3, .slice a4 1 ac4]) (t := 26) hA hS rfl rfl rfl (fun g => .pointer (some ⟨g, 0, none⟩)) (d_box rfl rfl) rfl ?_
 intro g2 w3 hS a hA
 refine seq_do hA rfl rfl rfl (d_assign rfl) ?_
 intro a hA
 refine seq_do hA rfl rfl rfl (d_assign rfl) ?_
 intro a hA
 refine seq_end ?_
 refine hK1 _ _ ?_
 refine wp_seq_k (fun K4 hK4 => ?_)
 refine wp_seq_k (fun K5 hK5 => ?_)
 refine wp_region_lit ?_
 refine seq_do hA rfl rfl rfl (d_loadS hS SmB_isS_26 rfl 0 rfl (cs := [.bool true, .slice a1 2 ac1, .slice a2 1 ac2, .bool false, .slice a3 0 ac3, .slice a4 1 ac4]) rfl rfl) ?_
 intro a hA
 refine seq_call hA rfl rfl rfl (enters_func  rfl rfl (fun w => by kernel_rfl)) (rsoundQ_any (show Nm _ _ a1 ac1 a2 ac2 a3 ac3 a4 ac4 from ⟨⟨(hS.rd 3 rfl), ha.s1.nil, ha.s1.cap⟩, ⟨(hS.rd 2 rfl), ha.s2.nil, ha.s2.cap⟩, ⟨(hS.rd 1 rfl), ha.s3.nil, ha.s3.cap⟩, ⟨(hS.rd 0 rfl), ha.s4.nil, ha.s4.cap⟩⟩) ⟨Nat.le_of_ble_eq_true rfl, Nat.le_of_ble_eq_true rfl, Nat.le_of_ble_eq_true rfl, Nat.le_of_ble_eq_true rfl⟩ hs) ?_
 rintro _ w7 ⟨rfl, hb6⟩
 replace hS := hS.call hb6
 refine ⟨_, rfl, ?_⟩
 intro a hA
 refine seq_do (v := .bool false) hA rfl rfl rfl (d_un rfl un_not) ?_
 intro a hA
 refine seq_end ?_
 refine hK5 _ _ ?_
 refine wp_cond_false (hA.ev rfl) ?_
 refine wp_skip ?_
 refine hK4 _ _ ?_
 refine wp_seq_k (fun K8 hK8 => ?_)
 refine wp_seq_k (fun K9 hK9 => ?_)
 refine wp_region_lit ?_
 refine seq_do hA rfl rfl rfl (d_loadS hS SmB_isS_26 rfl 0 rfl (cs := [.bool true, .slice a1 2 ac1, .slice a2 1 ac2, .bool false, .slice a3 0 ac3, .slice a4 1 ac4]) rfl rfl) ?_
 intro a hA
 refine seq_call hA rfl rfl rfl (enters_func  rfl rfl (fun w => by kernel_rfl)) (rwholeQ_any (show Nm _ _ a1 ac1 a2 ac2 a3 ac3 a4 ac4 from ⟨⟨(hS.rd 3 rfl), ha.s1.nil, ha.s1.cap⟩, ⟨(hS.rd 2 rfl), ha.s2.nil, ha.s2.cap⟩, ⟨(hS.rd 1 rfl), ha.s3.nil, ha.s3.cap⟩, ⟨(hS.rd 0 rfl), ha.s4.nil, ha.s4.cap⟩⟩) ⟨Nat.le_of_ble_eq_true rfl, Nat.le_of_ble_eq_true rfl, Nat.le_of_ble_eq_true rfl, Nat.le_of_ble_eq_true rfl⟩ hw) ?_
 rintro _ w11 ⟨rfl, hb10⟩
 replace hS := hS.call hb10
 refine ⟨_, rfl, ?_⟩
 intro a hA
 refine seq_do (v := .bool false) hA rfl rfl rfl (d_un rfl un_not) ?_
 intro a hA
 refine seq_end ?_
 refine hK9 _ _ ?_
 refine wp_cond_false (hA.ev rfl) ?_
 refine wp_skip ?_
 refine hK8 _ _ ?_
 refine wp_seq_k (fun K12 hK12 => ?_)
 refine wp_seq_k (fun K13 hK13 => ?_)
 refine wp_region_lit ?_
 refine seq_do (v := .pointer (some ⟨g2, 0, none⟩)) hA rfl rfl rfl (d_field SmB_fld_26_0 rfl rfl) ?_
 intro a hA
 refine seq_do (v := .pointer (some ⟨g2, 1, none⟩)) hA rfl rfl rfl (d_field SmB_fld_24_1 rfl rfl) ?_
 intro a hA
 refine seq_do hA rfl rfl rfl (d_load1 hS SmB_is1_22 rfl 0 rfl rfl) ?_
 intro a hA
 refine seq_call hA rfl rfl rfl (enters_func  rfl rfl (fun w => by kernel_rfl)) ((show Calls Tryz.prog 53 #[.slice a1 2 ac1] _ (fun e w' => e = .returned (.int .i64 ((bl (x) : Nat) : Int)) ∧ w' = _) from (by have h9 := size_any (x := x) ac1 (show Rd _ a1 (words (x)) from (by rw [hk]; exact (hS.rd 3 rfl))) (by rw [hk]; exact Nat.le_of_ble_eq_true rfl); rw [hk] at h9; exact h9))) ?_
 rintro _ w15 ⟨rfl, hb14⟩
 replace hb14 := below_eq hb14
 replace hS := hS.call hb14
 refine ⟨_, rfl, ?_⟩
 intro a hA
 refine seq_do (v := .bool false) hA rfl rfl rfl (d_bin rfl rfl (fun w => (bin_gtr w).trans (by rw [show (decide (64 < ((bl (x) : Nat) : Int))) = false from (decide_eq_false (by omega))]))) ?_
 intro a hA
 refine seq_end ?_
 refine hK13 _ _ ?_
 refine wp_cond_false (hA.ev rfl) ?_
 refine wp_skip ?_
 refine hK12 _ _ ?_
 refine wp_seq_k (fun K16 hK16 => ?_)
 refine wp_region_lit ?_
 refine seq_do hA rfl rfl rfl (d_assign rfl) ?_
 intro a hA
 refine seq_end ?_
 refine hK16 _ _ ?_
 refine wp_seq_k (fun K17 hK17 => ?_)
 refine wp_seq_k (fun K18 hK18 => ?_)
 refine wp_region_lit ?_
 refine seq_do (v := .pointer (some ⟨g2, 0, none⟩)) hA rfl rfl rfl (d_field SmB_fld_26_0 rfl rfl) ?_
 intro a hA
 refine seq_do (v := .pointer (some ⟨g2, 1, none⟩)) hA rfl rfl rfl (d_field SmB_fld_24_1 rfl rfl) ?_
 intro a hA
 refine seq_do hA rfl rfl rfl (d_load1 hS SmB_is1_22 rfl 0 rfl rfl) ?_
 intro a hA
 refine seq_do (v := .int .i64 2) hA rfl rfl rfl (d_len Tryz.underlying22 rfl) ?_
 intro a hA
 refine seq_do (v := .int .i64 1) hA rfl rfl rfl (d_bin rfl rfl (fun w => by kernel_rfl)) ?_
 intro a hA
 refine seq_do hA rfl rfl rfl (d_assign rfl) ?_
 intro a hA
 refine seq_end ?_
 refine hK18 _ _ ?_
 refine wp_block ?_
 refine wp_loop_rounds 12 ?_
 refine rounds_k (fun K19 hK19 => ?_)
 refine wp_seq_k (fun K20 hK20 => ?_)
 refine wp_seq_k (fun K21 hK21 => ?_)
 refine wp_region_lit ?_
 refine seq_do hA rfl rfl rfl (d_move rfl) ?_
 intro a hA
 refine seq_do (v := .bool true) hA rfl rfl rfl (d_bin rfl rfl (fun w => by kernel_rfl)) ?_
 intro a hA
 refine seq_end ?_
 refine hK21 _ _ ?_
 refine wp_cond_true (hA.ev rfl) ?_
 refine wp_skip ?_
 refine hK20 _ _ ?_
 refine wp_seq_k (fun K22 hK22 => ?_)
 refine wp_block ?_
 refine wp_region_lit ?_
 refine seq_do hA rfl rfl rfl (d_move rfl) ?_
 intro a hA
 refine seq_do (v := .int .u64 0) hA rfl rfl rfl (d_bin rfl rfl (ar_mul (by decide))) ?_
 intro a hA
 refine seq_do (v := .pointer (some ⟨g2, 0, none⟩)) hA rfl rfl rfl (d_field SmB_fld_26_0 rfl rfl) ?_
 intro a hA
 refine seq_do (v := .pointer (some ⟨g2, 1, none⟩)) hA rfl rfl rfl (d_field SmB_fld_24_1 rfl rfl) ?_
 intro a hA
 refine seq_do hA rfl rfl rfl (d_load1 hS SmB_is1_22 rfl 0 rfl rfl) ?_
 intro a hA
 refine seq_do hA rfl rfl rfl (d_move rfl) ?_
 intro a hA
 have hi26 : 1 < ([d0, d1]).length := by first | (simp; done) | omega
 obtain ⟨b23, f24, hso25⟩ := Rd.addr (hS.rd 3 rfl) hi26
 refine seq_do (v := .pointer (some ⟨b23, f24 + 1, none⟩)) hA rfl rfl rfl (d_indexRow (k := 1) Tryz.underlying22 (by kernel_rfl) rfl rfl (by omega) hso25 (by omega)) ?_
 intro a hA
 refine seq_do (v := .int .u32 (((([d0, d1]).getD 1 0 : Nat) : Int))) hA rfl rfl rfl (d_loadRow (hS.rd 3 rfl) hso25 hi26 SmB_is1_66 rfl) ?_
 intro a hA
 refine seq_do (v := .int .u64 (((d1 : Nat) : Int))) hA rfl rfl rfl (d_convert rfl (ar_conv Tryz.underlying66 Tryz.underlying61 (show IntKind.u64.wrap ((d1 : Nat) : Int) = ((d1 : Nat) : Int) from c32_u64 (by omega)))) ?_
 intro a hA
 refine seq_do (v := .int .u64 (((d1 : Nat) : Int))) hA rfl rfl rfl (d_bin rfl rfl (ar_add (show IntKind.u64.wrap (0 + ((d1 : Nat) : Int)) = ((d1 : Nat) : Int) from (in_u64 (by omega) (by omega)).trans (by omega)))) ?_
 intro a hA
 refine seq_do hA rfl rfl rfl (d_assign rfl) ?_
 intro a hA
 refine seq_end ?_
 refine hK22 _ _ ?_
 refine wp_region_lit ?_
 refine seq_do hA rfl rfl rfl (d_move rfl) ?_
 intro a hA
 refine seq_do (v := .int .i64 0) hA rfl rfl rfl (d_bin rfl rfl (fun w => by kernel_rfl)) ?_
 intro a hA
 refine seq_do hA rfl rfl rfl (d_assign rfl) ?_
 intro a hA
 refine seq_end ?_
 refine hK19 _ _ ?_
 refine rounds_k (fun K27 hK27 => ?_)
 refine wp_seq_k (fun K28 hK28 => ?_)
 refine wp_seq_k (fun K29 hK29 => ?_)
 refine wp_region_lit ?_
 refine seq_do hA rfl rfl rfl (d_move rfl) ?_
 intro a hA
 refine seq_do (v := .bool true) hA rfl rfl rfl (d_bin rfl rfl (fun w => by kernel_rfl)) ?_
 intro a hA
 refine seq_end ?_
 refine hK29 _ _ ?_
 refine wp_cond_true (hA.ev rfl) ?_
 refine wp_skip ?_
 refine hK28 _ _ ?_
 refine wp_seq_k (fun K30 hK30 => ?_)
 refine wp_block ?_
 refine wp_region_lit ?_
 refine seq_do hA rfl rfl rfl (d_move rfl) ?_
 intro a hA
 refine seq_do (v := .int .u64 (((y : Nat) : Int))) hA rfl rfl rfl (d_bin rfl rfl (ar_mul (show IntKind.u64.wrap (((d1 : Nat) : Int) * 4294967296) = ((y : Nat) : Int) from (in_u64 (by omega) (by omega)).trans (by omega)))) ?_
 intro a hA
 refine seq_do (v := .pointer (some ⟨g2, 0, none⟩)) hA rfl rfl rfl (d_field SmB_fld_26_0 rfl rfl) ?_
 intro a hA
 refine seq_do (v := .pointer (some ⟨g2, 1, none⟩)) hA rfl rfl rfl (d_field SmB_fld_24_1 rfl rfl) ?_
 intro a hA
 refine seq_do hA rfl rfl rfl (d_load1 hS SmB_is1_22 rfl 0 rfl rfl) ?_
 intro a hA
 refine seq_do hA rfl rfl rfl (d_move rfl) ?_
 intro a hA
 have hi34 : 0 < ([d0, d1]).length := by first | (simp; done) | omega
 obtain ⟨b31, f32, hso33⟩ := Rd.addr (hS.rd 3 rfl) hi34
 refine seq_do (v := .pointer (some ⟨b31, f32 + 0, none⟩)) hA rfl rfl rfl (d_indexRow (k := 0) Tryz.underlying22 (by kernel_rfl) rfl rfl (by omega) hso33 (by omega)) ?_
 intro a hA
 refine seq_do (v := .int .u32 (((([d0, d1]).getD 0 0 : Nat) : Int))) hA rfl rfl rfl (d_loadRow (hS.rd 3 rfl) hso33 hi34 SmB_is1_66 rfl) ?_
 intro a hA
 refine seq_do (v := .int .u64 (((d0 : Nat) : Int))) hA rfl rfl rfl (d_convert rfl (ar_conv Tryz.underlying66 Tryz.underlying61 (show IntKind.u64.wrap ((d0 : Nat) : Int) = ((d0 : Nat) : Int) from c32_u64 (by omega)))) ?_
 intro a hA
 refine seq_do (v := .int .u64 (((x : Nat) : Int))) hA rfl rfl rfl (d_bin rfl rfl (ar_add (show IntKind.u64.wrap (((y : Nat) : Int) + ((d0 : Nat) : Int)) = ((x : Nat) : Int) from (in_u64 (by omega) (by omega)).trans (by omega)))) ?_
 intro a hA
 refine seq_do hA rfl rfl rfl (d_assign rfl) ?_
 intro a hA
 refine seq_end ?_
 refine hK30 _ _ ?_
 refine wp_region_lit ?_
 refine seq_do hA rfl rfl rfl (d_move rfl) ?_
 intro a hA
 refine seq_do (v := .int .i64 (-1)) hA rfl rfl rfl (d_bin rfl rfl (fun w => by kernel_rfl)) ?_
 intro a hA
 refine seq_do hA rfl rfl rfl (d_assign rfl) ?_
 intro a hA
 refine seq_end ?_
 refine hK27 _ _ ?_
 refine rounds_k (fun K35 hK35 => ?_)
 refine wp_seq_k (fun K36 hK36 => ?_)
 refine wp_seq_k (fun K37 hK37 => ?_)
 refine wp_region_lit ?_
 refine seq_do hA rfl rfl rfl (d_move rfl) ?_
 intro a hA
 refine seq_do (v := .bool false) hA rfl rfl rfl (d_bin rfl rfl (fun w => by kernel_rfl)) ?_
 intro a hA
 refine seq_end ?_
 refine hK37 _ _ ?_
 refine wp_cond_false (hA.ev rfl) ?_
 refine wp_exit ?_
 refine hK17 _ _ ?_
 refine wp_seq_k (fun K38 hK38 => ?_)
 refine wp_seq_k (fun K39 hK39 => ?_)
 refine wp_region_lit ?_
 refine seq_do (v := .pointer (some ⟨g2, 0, none⟩)) hA rfl rfl rfl (d_field SmB_fld_26_0 rfl rfl) ?_
 intro a hA
 refine seq_do (v := .pointer (some ⟨g2, 0, none⟩)) hA rfl rfl rfl (d_field SmB_fld_24_0 rfl rfl) ?_
 intro a hA
 refine seq_do hA rfl rfl rfl (d_load1 hS SmB_is1_4 rfl 0 rfl rfl) ?_
 intro a hA
 refine seq_end ?_
 refine hK39 _ _ ?_
 refine wp_cond_true (hA.ev rfl) ?_
 refine wp_seq_k (fun K40 hK40 => ?_)
 refine wp_seq_k (fun K41 hK41 => ?_)
 refine wp_region_lit ?_
 refine seq_do hA rfl rfl rfl (d_move rfl) ?_
 intro a hA
 refine seq_do (v := .bool true) hA rfl rfl rfl (d_bin rfl rfl (fun w => (bin_gtr w).trans (by rw [show (decide (9223372036854775808 < ((x : Nat) : Int))) = true from (decide_eq_true (by omega))]))) ?_
 intro a hA
 refine seq_end ?_
 refine hK41 _ _ ?_
 refine wp_cond_true (hA.ev rfl) ?_
 refine wp_seq_k (fun K42 hK42 => ?_)
 refine wp_region_lit ?_
 refine seq_do hA rfl rfl rfl (d_assign rfl) ?_
 intro a hA
 refine seq_do hA rfl rfl rfl (d_assign rfl) ?_
 intro a hA
 refine seq_end ?_
 refine hK42 _ _ ?_
 refine wp_ret ?_
 refine hret _ _ ?_
 refine ends (v := .tuple #[.int .i64 0, .int .i64 4]) hA rfl (.cons (res_tmp rfl) (.cons (res_tmp rfl) .nil)) rfl ?_
 exact ⟨rfl, hS.bel⟩
theorem rsmall2tS_any {w : World} {d0 d1 y x : Nat} (h0 : d0 < 4294967296) (h1 : d1 < 4294967296) (hy : d1 * 4294967296 = y) (hx : y + d0 = x) {a1 a2 a3 a4 : Option Addr} {ac1 ac2 ac3 ac4 : Nat} (ha : Nm w ((⟨true, [d0, d1], [1], false, [], [1]⟩ : Q6)) a1 ac1 a2 ac2 a3 ac3 a4 ac4) (hs : soundQ (⟨true, [d0, d1], [1], false, [], [1]⟩ : Q6) = true) (hw : wholeQ (⟨true, [d0, d1], [1], false, [], [1]⟩ : Q6) = true) (hk : (words (x)) = [d0, d1]) (hz : bl (x) ≤ 64) (hc : x ≤ 9223372036854775808) (hp : 1 ≤ x) : Calls Tryz.prog 15 #[numV (⟨true, [d0, d1], [1], false, [], [1]⟩ : Q6) a1 ac1 a2 ac2 a3 ac3 a4 ac4] w fun e w' => e = .returned (.tuple #[.int .i64 (sgn true (x)), .int .i64 0]) ∧ Below w.heap.size w w' := by
 have hS : St w w [] [(a4, [1]), (a3, []), (a2, [1]), (a1, [d0, d1])] [] := ((((St.start w).addR ha.s1.rd).addR ha.s2.rd).addR ha.s3.rd).addR ha.s4.rd
 refine walk_of (l := [(0, .agg #[.bool true, .slice a1 2 ac1, .slice a2 1 ac2, .bool false, .slice a3 0 ac3, .slice a4 1 ac4])]) Tryz.func15 rfl Tryz.ntmps15 rfl rfl ?_
 intro Q hret hnorm hP a hA
 refine wp_seq_k (fun K1 hK1 => ?_)
 refine wp_region_lit ?_
 refine seq_new (vs := [.bool true, .slice a1 2 ac1, .slice a2 1 ac2, .bool false, .slice a3 0 ac3, .slice a4 1 ac4]) (t := 26) hA hS rfl rfl rfl (fun g => .pointer (some ⟨g, 0, none⟩)) (d_box rfl rfl) rfl ?_
 intro g2 w3 hS a hA
 refine seq_do hA rfl rfl rfl (d_assign rfl) ?_
 intro a hA
 refine seq_do hA rfl rfl rfl (d_assign rfl) ?_
 intro a hA
 refine seq_end ?_
 refine hK1 _ _ ?_
 refine wp_seq_k (fun K4 hK4 => ?_)
 refine wp_seq_k (fun K5 hK5 => ?_)
 refine wp_region_lit ?_
 refine seq_do hA rfl rfl rfl (d_loadS hS SmB_isS_26 rfl 0 rfl (cs := [.bool true, .slice a1 2 ac1, .slice a2 1 ac2, .bool false, .slice a3 0 ac3, .slice a4 1 ac4]) rfl rfl) ?_
 intro a hA
 refine seq_call hA rfl rfl rfl (enters_func  rfl rfl (fun w => by kernel_rfl)) (rsoundQ_any (show Nm _ _ a1 ac1 a2 ac2 a3 ac3 a4 ac4 from ⟨⟨(hS.rd 3 rfl), ha.s1.nil, ha.s1.cap⟩, ⟨(hS.rd 2 rfl), ha.s2.nil, ha.s2.cap⟩, ⟨(hS.rd 1 rfl), ha.s3.nil, ha.s3.cap⟩, ⟨(hS.rd 0 rfl), ha.s4.nil, ha.s4.cap⟩⟩) ⟨Nat.le_of_ble_eq_true rfl, Nat.le_of_ble_eq_true rfl, Nat.le_of_ble_eq_true rfl, Nat.le_of_ble_eq_true rfl⟩ hs) ?_
 rintro _ w7 ⟨rfl, hb6⟩
 replace hS := hS.call hb6
 refine ⟨_, rfl, ?_⟩
 intro a hA
 refine seq_do (v := .bool false) hA rfl rfl rfl (d_un rfl un_not) ?_
 intro a hA
 refine seq_end ?_
 refine hK5 _ _ ?_
 refine wp_cond_false (hA.ev rfl) ?_
 refine wp_skip ?_
 refine hK4 _ _ ?_
 refine wp_seq_k (fun K8 hK8 => ?_)
 refine wp_seq_k (fun K9 hK9 => ?_)
 refine wp_region_lit ?_
 refine seq_do hA rfl rfl rfl (d_loadS hS SmB_isS_26 rfl 0 rfl (cs := [.bool true, .slice a1 2 ac1, .slice a2 1 ac2, .bool false, .slice a3 0 ac3, .slice a4 1 ac4]) rfl rfl) ?_
 intro a hA
 refine seq_call hA rfl rfl rfl (enters_func  rfl rfl (fun w => by kernel_rfl)) (rwholeQ_any (show Nm _ _ a1 ac1 a2 ac2 a3 ac3 a4 ac4 from ⟨⟨(hS.rd 3 rfl), ha.s1.nil, ha.s1.cap⟩, ⟨(hS.rd 2 rfl), ha.s2.nil, ha.s2.cap⟩, ⟨(hS.rd 1 rfl), ha.s3.nil, ha.s3.cap⟩, ⟨(hS.rd 0 rfl), ha.s4.nil, ha.s4.cap⟩⟩) ⟨Nat.le_of_ble_eq_true rfl, Nat.le_of_ble_eq_true rfl, Nat.le_of_ble_eq_true rfl, Nat.le_of_ble_eq_true rfl⟩ hw) ?_
 rintro _ w11 ⟨rfl, hb10⟩
 replace hS := hS.call hb10
 refine ⟨_, rfl, ?_⟩
 intro a hA
 refine seq_do (v := .bool false) hA rfl rfl rfl (d_un rfl un_not) ?_
 intro a hA
 refine seq_end ?_
 refine hK9 _ _ ?_
 refine wp_cond_false (hA.ev rfl) ?_
 refine wp_skip ?_
 refine hK8 _ _ ?_
 refine wp_seq_k (fun K12 hK12 => ?_)
 refine wp_seq_k (fun K13 hK13 => ?_)
 refine wp_region_lit ?_
 refine seq_do (v := .pointer (some ⟨g2, 0, none⟩)) hA rfl rfl rfl (d_field SmB_fld_26_0 rfl rfl) ?_
 intro a hA
 refine seq_do (v := .pointer (some ⟨g2, 1, none⟩)) hA rfl rfl rfl (d_field SmB_fld_24_1 rfl rfl) ?_
 intro a hA
 refine seq_do hA rfl rfl rfl (d_load1 hS SmB_is1_22 rfl 0 rfl rfl) ?_
 intro a hA
 refine seq_call hA rfl rfl rfl (enters_func  rfl rfl (fun w => by kernel_rfl)) ((show Calls Tryz.prog 53 #[.slice a1 2 ac1] _ (fun e w' => e = .returned (.int .i64 ((bl (x) : Nat) : Int)) ∧ w' = _) from (by have h9 := size_any (x := x) ac1 (show Rd _ a1 (words (x)) from (by rw [hk]; exact (hS.rd 3 rfl))) (by rw [hk]; exact Nat.le_of_ble_eq_true rfl); rw [hk] at h9; exact h9))) ?_
 rintro _ w15 ⟨rfl, hb14⟩
 replace hb14 := below_eq hb14
 replace hS := hS.call hb14
 refine ⟨_, rfl, ?_⟩
 intro a hA
 refine seq_do (v := .bool false) hA rfl rfl rfl (d_bin rfl rfl (fun w => (bin_gtr w).trans (by rw [show (decide (64 < ((bl (x) : Nat) : Int))) = false from (decide_eq_false (by omega))]))) ?_
 intro a hA
 refine seq_end ?_
 refine hK13 _ _ ?_
 refine wp_cond_false (hA.ev rfl) ?_
 refine wp_skip ?_
 refine hK12 _ _ ?_
 refine wp_seq_k (fun K16 hK16 => ?_)
 refine wp_region_lit ?_
 refine seq_do hA rfl rfl rfl (d_assign rfl) ?_
 intro a hA
 refine seq_end ?_
 refine hK16 _ _ ?_
 refine wp_seq_k (fun K17 hK17 => ?_)
 refine wp_seq_k (fun K18 hK18 => ?_)
 refine wp_region_lit ?_
 refine seq_do (v := .pointer (some ⟨g2, 0, none⟩)) hA rfl rfl rfl (d_field SmB_fld_26_0 rfl rfl) ?_
 intro a hA
 refine seq_do (v := .pointer (some ⟨g2, 1, none⟩)) hA rfl rfl rfl (d_field SmB_fld_24_1 rfl rfl) ?_
 intro a hA
 refine seq_do hA rfl rfl rfl (d_load1 hS SmB_is1_22 rfl 0 rfl rfl) ?_
 intro a hA
 refine seq_do (v := .int .i64 2) hA rfl rfl rfl (d_len Tryz.underlying22 rfl) ?_
 intro a hA
 refine seq_do (v := .int .i64 1) hA rfl rfl rfl (d_bin rfl rfl (fun w => by kernel_rfl)) ?_
 intro a hA
 refine seq_do hA rfl rfl rfl (d_assign rfl) ?_
 intro a hA
 refine seq_end ?_
 refine hK18 _ _ ?_
 refine wp_block ?_
 refine wp_loop_rounds 12 ?_
 refine rounds_k (fun K19 hK19 => ?_)
 refine wp_seq_k (fun K20 hK20 => ?_)
 refine wp_seq_k (fun K21 hK21 => ?_)
 refine wp_region_lit ?_
 refine seq_do hA rfl rfl rfl (d_move rfl) ?_
 intro a hA
 refine seq_do (v := .bool true) hA rfl rfl rfl (d_bin rfl rfl (fun w => by kernel_rfl)) ?_
 intro a hA
 refine seq_end ?_
 refine hK21 _ _ ?_
 refine wp_cond_true (hA.ev rfl) ?_
 refine wp_skip ?_
 refine hK20 _ _ ?_
 refine wp_seq_k (fun K22 hK22 => ?_)
 refine wp_block ?_
 refine wp_region_lit ?_
 refine seq_do hA rfl rfl rfl (d_move rfl) ?_
 intro a hA
 refine seq_do (v := .int .u64 0) hA rfl rfl rfl (d_bin rfl rfl (ar_mul (by decide))) ?_
 intro a hA
 refine seq_do (v := .pointer (some ⟨g2, 0, none⟩)) hA rfl rfl rfl (d_field SmB_fld_26_0 rfl rfl) ?_
 intro a hA
 refine seq_do (v := .pointer (some ⟨g2, 1, none⟩)) hA rfl rfl rfl (d_field SmB_fld_24_1 rfl rfl) ?_
 intro a hA
 refine seq_do hA rfl rfl rfl (d_load1 hS SmB_is1_22 rfl 0 rfl rfl) ?_
 intro a hA
 refine seq_do hA rfl rfl rfl (d_move rfl) ?_
 intro a hA
 have hi26 : 1 < ([d0, d1]).length := by first | (simp; done) | omega
 obtain ⟨b23, f24, hso25⟩ := Rd.addr (hS.rd 3 rfl) hi26
 refine seq_do (v := .pointer (some ⟨b23, f24 + 1, none⟩)) hA rfl rfl rfl (d_indexRow (k := 1) Tryz.underlying22 (by kernel_rfl) rfl rfl (by omega) hso25 (by omega)) ?_
 intro a hA
 refine seq_do (v := .int .u32 (((([d0, d1]).getD 1 0 : Nat) : Int))) hA rfl rfl rfl (d_loadRow (hS.rd 3 rfl) hso25 hi26 SmB_is1_66 rfl) ?_
 intro a hA
 refine seq_do (v := .int .u64 (((d1 : Nat) : Int))) hA rfl rfl rfl (d_convert rfl (ar_conv Tryz.underlying66 Tryz.underlying61 (show IntKind.u64.wrap ((d1 : Nat) : Int) = ((d1 : Nat) : Int) from c32_u64 (by omega)))) ?_
 intro a hA
 refine seq_do (v := .int .u64 (((d1 : Nat) : Int))) hA rfl rfl rfl (d_bin rfl rfl (ar_add (show IntKind.u64.wrap (0 + ((d1 : Nat) : Int)) = ((d1 : Nat) : Int) from (in_u64 (by omega) (by omega)).trans (by omega)))) ?_
 intro a hA
 refine seq_do hA rfl rfl rfl (d_assign rfl) ?_
 intro a hA
 refine seq_end ?_
 refine hK22 _ _ ?_
 refine wp_region_lit ?_
 refine seq_do hA rfl rfl rfl (d_move rfl) ?_
 intro a hA
 refine seq_do (v := .int .i64 0) hA rfl rfl rfl (d_bin rfl rfl (fun w => by kernel_rfl)) ?_
 intro a hA
 refine seq_do hA rfl rfl rfl (d_assign rfl) ?_
 intro a hA
 refine seq_end ?_
 refine hK19 _ _ ?_
 refine rounds_k (fun K27 hK27 => ?_)
 refine wp_seq_k (fun K28 hK28 => ?_)
 refine wp_seq_k (fun K29 hK29 => ?_)
 refine wp_region_lit ?_
 refine seq_do hA rfl rfl rfl (d_move rfl) ?_
 intro a hA
 refine seq_do (v := .bool true) hA rfl rfl rfl (d_bin rfl rfl (fun w => by kernel_rfl)) ?_
 intro a hA
 refine seq_end ?_
 refine hK29 _ _ ?_
 refine wp_cond_true (hA.ev rfl) ?_
 refine wp_skip ?_
 refine hK28 _ _ ?_
 refine wp_seq_k (fun K30 hK30 => ?_)
 refine wp_block ?_
 refine wp_region_lit ?_
 refine seq_do hA rfl rfl rfl (d_move rfl) ?_
 intro a hA
 refine seq_do (v := .int .u64 (((y : Nat) : Int))) hA rfl rfl rfl (d_bin rfl rfl (ar_mul (show IntKind.u64.wrap (((d1 : Nat) : Int) * 4294967296) = ((y : Nat) : Int) from (in_u64 (by omega) (by omega)).trans (by omega)))) ?_
 intro a hA
 refine seq_do (v := .pointer (some ⟨g2, 0, none⟩)) hA rfl rfl rfl (d_field SmB_fld_26_0 rfl rfl) ?_
 intro a hA
 refine seq_do (v := .pointer (some ⟨g2, 1, none⟩)) hA rfl rfl rfl (d_field SmB_fld_24_1 rfl rfl) ?_
 intro a hA
 refine seq_do hA rfl rfl rfl (d_load1 hS SmB_is1_22 rfl 0 rfl rfl) ?_
 intro a hA
 refine seq_do hA rfl rfl rfl (d_move rfl) ?_
 intro a hA
 have hi34 : 0 < ([d0, d1]).length := by first | (simp; done) | omega
 obtain ⟨b31, f32, hso33⟩ := Rd.addr (hS.rd 3 rfl) hi34
 refine seq_do (v := .pointer (some ⟨b31, f32 + 0, none⟩)) hA rfl rfl rfl (d_indexRow (k := 0) Tryz.underlying22 (by kernel_rfl) rfl rfl (by omega) hso33 (by omega)) ?_
 intro a hA
 refine seq_do (v := .int .u32 (((([d0, d1]).getD 0 0 : Nat) : Int))) hA rfl rfl rfl (d_loadRow (hS.rd 3 rfl) hso33 hi34 SmB_is1_66 rfl) ?_
 intro a hA
 refine seq_do (v := .int .u64 (((d0 : Nat) : Int))) hA rfl rfl rfl (d_convert rfl (ar_conv Tryz.underlying66 Tryz.underlying61 (show IntKind.u64.wrap ((d0 : Nat) : Int) = ((d0 : Nat) : Int) from c32_u64 (by omega)))) ?_
 intro a hA
 refine seq_do (v := .int .u64 (((x : Nat) : Int))) hA rfl rfl rfl (d_bin rfl rfl (ar_add (show IntKind.u64.wrap (((y : Nat) : Int) + ((d0 : Nat) : Int)) = ((x : Nat) : Int) from (in_u64 (by omega) (by omega)).trans (by omega)))) ?_
 intro a hA
 refine seq_do hA rfl rfl rfl (d_assign rfl) ?_
 intro a hA
 refine seq_end ?_
 refine hK30 _ _ ?_
 refine wp_region_lit ?_
 refine seq_do hA rfl rfl rfl (d_move rfl) ?_
 intro a hA
 refine seq_do (v := .int .i64 (-1)) hA rfl rfl rfl (d_bin rfl rfl (fun w => by kernel_rfl)) ?_
 intro a hA
 refine seq_do hA rfl rfl rfl (d_assign rfl) ?_
 intro a hA
 refine seq_end ?_
 refine hK27 _ _ ?_
 refine rounds_k (fun K35 hK35 => ?_)
 refine wp_seq_k (fun K36 hK36 => ?_)
 refine wp_seq_k (fun K37 hK37 => ?_)
 refine wp_region_lit ?_
 refine seq_do hA rfl rfl rfl (d_move rfl) ?_
 intro a hA
 refine seq_do (v := .bool false) hA rfl rfl rfl (d_bin rfl rfl (fun w => by kernel_rfl)) ?_
 intro a hA
 refine seq_end ?_
 refine hK37 _ _ ?_
 refine wp_cond_false (hA.ev rfl) ?_
 refine wp_exit ?_
 refine hK17 _ _ ?_
 refine wp_seq_k (fun K38 hK38 => ?_)
 refine wp_seq_k (fun K39 hK39 => ?_)
 refine wp_region_lit ?_
 refine seq_do (v := .pointer (some ⟨g2, 0, none⟩)) hA rfl rfl rfl (d_field SmB_fld_26_0 rfl rfl) ?_
 intro a hA
 refine seq_do (v := .pointer (some ⟨g2, 0, none⟩)) hA rfl rfl rfl (d_field SmB_fld_24_0 rfl rfl) ?_
 intro a hA
 refine seq_do hA rfl rfl rfl (d_load1 hS SmB_is1_4 rfl 0 rfl rfl) ?_
 intro a hA
 refine seq_end ?_
 refine hK39 _ _ ?_
 refine wp_cond_true (hA.ev rfl) ?_
 refine wp_seq_k (fun K40 hK40 => ?_)
 refine wp_seq_k (fun K41 hK41 => ?_)
 refine wp_region_lit ?_
 refine seq_do hA rfl rfl rfl (d_move rfl) ?_
 intro a hA
 refine seq_do (v := .bool false) hA rfl rfl rfl (d_bin rfl rfl (fun w => (bin_gtr w).trans (by rw [show (decide (9223372036854775808 < ((x : Nat) : Int))) = false from (decide_eq_false (by omega))]))) ?_
 intro a hA
 refine seq_end ?_
 refine hK41 _ _ ?_
 refine wp_cond_false (hA.ev rfl) ?_
 refine wp_skip ?_
 refine hK40 _ _ ?_
 refine wp_seq_k (fun K42 hK42 => ?_)
 refine wp_region_lit ?_
 refine seq_do hA rfl rfl rfl (d_move rfl) ?_
 intro a hA
 refine seq_do (v := .int .u64 (((x - 1 : Nat) : Int))) hA rfl rfl rfl (d_bin rfl rfl (ar_sub (show IntKind.u64.wrap (((x : Nat) : Int) - 1) = ((x - 1 : Nat) : Int) from (in_u64 (by omega) (by omega)).trans (by omega)))) ?_
 intro a hA
 refine seq_do (v := .int .i64 (((x - 1 : Nat) : Int))) hA rfl rfl rfl (d_convert rfl (ar_conv Tryz.underlying61 Tryz.underlying3 (in_i64 (by omega) (by omega)))) ?_
 intro a hA
 refine seq_do (v := .int .i64 (-(((x - 1 : Nat) : Int)))) hA rfl rfl rfl (d_un rfl (ar_neg (in_i64 (by omega) (by omega)))) ?_
 intro a hA
 refine seq_do (v := .int .i64 (-(((x - 1 : Nat) : Int)) - 1)) hA rfl rfl rfl (d_bin rfl rfl (bin_sub (i64In (by omega) (by omega)))) ?_
 intro a hA
 refine seq_do hA rfl rfl rfl (d_assign rfl) ?_
 intro a hA
 refine seq_do hA rfl rfl rfl (d_assign rfl) ?_
 intro a hA
 refine seq_end ?_
 refine hK42 _ _ ?_
 refine wp_ret ?_
 refine hret _ _ ?_
 refine ends (v := .tuple #[.int .i64 (-(((x - 1 : Nat) : Int)) - 1), .int .i64 0]) hA rfl (.cons (res_tmp rfl) (.cons (res_tmp rfl) .nil)) rfl ?_
 exact ⟨by rw [show (-(((x - 1 : Nat) : Int)) - 1) = sgn true (x) from by simp only [sgn]; first | rfl | omega | (simp; omega)], hS.bel⟩
theorem rsmallX_any {w : World} {b : Bool} {x : Nat} {a1 a2 a3 a4 : Option Addr} {ac1 ac2 ac3 ac4 : Nat} (ha : Nm w (Q6.whole b x) a1 ac1 a2 ac2 a3 ac3 a4 ac4) (hl : LenQ (Q6.whole b x)) (hs : soundQ (Q6.whole b x) = true) (hw : wholeQ (Q6.whole b x) = true) (hx : (words x).length ≤ 512) (hc : 64 < bl x) : Calls Tryz.prog 15 #[numV (Q6.whole b x) a1 ac1 a2 ac2 a3 ac3 a4 ac4] w fun e w' => e = .returned (.tuple #[.int .i64 0, .int .i64 4]) ∧ Below w.heap.size w w' := by
 have hS : St w w [] [(a4, [1]), (a3, []), (a2, [1]), (a1, words x)] [] := ((((St.start w).addR ha.s1.rd).addR ha.s2.rd).addR ha.s3.rd).addR ha.s4.rd
 refine walk_of (l := [(0, .agg #[.bool b, .slice a1 ((words x).length) ac1, .slice a2 1 ac2, .bool false, .slice a3 0 ac3, .slice a4 1 ac4])]) Tryz.func15 rfl Tryz.ntmps15 rfl rfl ?_
 intro Q hret hnorm hP a hA
 refine wp_seq_k (fun K1 hK1 => ?_)
 refine wp_region_lit ?_
 refine seq_new (vs := [.bool b, .slice a1 ((words x).length) ac1, .slice a2 1 ac2, .bool false, .slice a3 0 ac3, .slice a4 1 ac4]) (t := 26) hA hS rfl rfl rfl (fun g => .pointer (some ⟨g, 0, none⟩)) (d_box rfl rfl) rfl ?_
 intro g2 w3 hS a hA
 refine seq_do hA rfl rfl rfl (d_assign rfl) ?_
 intro a hA
 refine seq_do hA rfl rfl rfl (d_assign rfl) ?_
 intro a hA
 refine seq_end ?_
 refine hK1 _ _ ?_
 refine wp_seq_k (fun K4 hK4 => ?_)
 refine wp_seq_k (fun K5 hK5 => ?_)
 refine wp_region_lit ?_
 refine seq_do hA rfl rfl rfl (d_loadS hS SmB_isS_26 rfl 0 rfl (cs := [.bool b, .slice a1 ((words x).length) ac1, .slice a2 1 ac2, .bool false, .slice a3 0 ac3, .slice a4 1 ac4]) rfl rfl) ?_
 intro a hA
 refine seq_call hA rfl rfl rfl (enters_func  rfl rfl (fun w => by kernel_rfl)) (rsoundQ_any (show Nm _ _ a1 ac1 a2 ac2 a3 ac3 a4 ac4 from ⟨⟨(hS.rd 3 rfl), ha.s1.nil, ha.s1.cap⟩, ⟨(hS.rd 2 rfl), ha.s2.nil, ha.s2.cap⟩, ⟨(hS.rd 1 rfl), ha.s3.nil, ha.s3.cap⟩, ⟨(hS.rd 0 rfl), ha.s4.nil, ha.s4.cap⟩⟩) hl hs) ?_
 rintro _ w7 ⟨rfl, hb6⟩
 replace hS := hS.call hb6
 refine ⟨_, rfl, ?_⟩
 intro a hA
 refine seq_do (v := .bool false) hA rfl rfl rfl (d_un rfl un_not) ?_
 intro a hA
 refine seq_end ?_
 refine hK5 _ _ ?_
 refine wp_cond_false (hA.ev rfl) ?_
 refine wp_skip ?_
 refine hK4 _ _ ?_
 refine wp_seq_k (fun K8 hK8 => ?_)
 refine wp_seq_k (fun K9 hK9 => ?_)
 refine wp_region_lit ?_
 refine seq_do hA rfl rfl rfl (d_loadS hS SmB_isS_26 rfl 0 rfl (cs := [.bool b, .slice a1 ((words x).length) ac1, .slice a2 1 ac2, .bool false, .slice a3 0 ac3, .slice a4 1 ac4]) rfl rfl) ?_
 intro a hA
 refine seq_call hA rfl rfl rfl (enters_func  rfl rfl (fun w => by kernel_rfl)) (rwholeQ_any (show Nm _ _ a1 ac1 a2 ac2 a3 ac3 a4 ac4 from ⟨⟨(hS.rd 3 rfl), ha.s1.nil, ha.s1.cap⟩, ⟨(hS.rd 2 rfl), ha.s2.nil, ha.s2.cap⟩, ⟨(hS.rd 1 rfl), ha.s3.nil, ha.s3.cap⟩, ⟨(hS.rd 0 rfl), ha.s4.nil, ha.s4.cap⟩⟩) hl hw) ?_
 rintro _ w11 ⟨rfl, hb10⟩
 replace hS := hS.call hb10
 refine ⟨_, rfl, ?_⟩
 intro a hA
 refine seq_do (v := .bool false) hA rfl rfl rfl (d_un rfl un_not) ?_
 intro a hA
 refine seq_end ?_
 refine hK9 _ _ ?_
 refine wp_cond_false (hA.ev rfl) ?_
 refine wp_skip ?_
 refine hK8 _ _ ?_
 refine wp_seq_k (fun K12 hK12 => ?_)
 refine wp_seq_k (fun K13 hK13 => ?_)
 refine wp_region_lit ?_
 refine seq_do (v := .pointer (some ⟨g2, 0, none⟩)) hA rfl rfl rfl (d_field SmB_fld_26_0 rfl rfl) ?_
 intro a hA
 refine seq_do (v := .pointer (some ⟨g2, 1, none⟩)) hA rfl rfl rfl (d_field SmB_fld_24_1 rfl rfl) ?_
 intro a hA
 refine seq_do hA rfl rfl rfl (d_load1 hS SmB_is1_22 rfl 0 rfl rfl) ?_
 intro a hA
 refine seq_call hA rfl rfl rfl (enters_func  rfl rfl (fun w => by kernel_rfl)) (size_any _ (hS.rd 3 rfl) (by omega)) ?_
 rintro _ w15 ⟨rfl, hb14⟩
 replace hb14 := below_eq hb14
 replace hS := hS.call hb14
 refine ⟨_, rfl, ?_⟩
 intro a hA
 refine seq_do (v := .bool true) hA rfl rfl rfl (d_bin rfl rfl (fun w => (bin_gtr w).trans (by rw [show (decide (64 < ((bl x : Nat) : Int))) = true from (decide_eq_true (by omega))]))) ?_
 intro a hA
 refine seq_end ?_
 refine hK13 _ _ ?_
 refine wp_cond_true (hA.ev rfl) ?_
 refine wp_seq_k (fun K16 hK16 => ?_)
 refine wp_region_lit ?_
 refine seq_do hA rfl rfl rfl (d_assign rfl) ?_
 intro a hA
 refine seq_do hA rfl rfl rfl (d_assign rfl) ?_
 intro a hA
 refine seq_end ?_
 refine hK16 _ _ ?_
 refine wp_ret ?_
 refine hret _ _ ?_
 refine ends (v := .tuple #[.int .i64 0, .int .i64 4]) hA rfl (.cons (res_tmp rfl) (.cons (res_tmp rfl) .nil)) rfl ?_
 exact ⟨rfl, hS.bel⟩
end Go.Proofs.YthlkbnhbmfmchaaGreat
namespace Go.Proofs.YthlkbnhbmfmchaaGreat
open Go.RowKit
set_option linter.unusedVariables false
set_option linter.unusedSimpArgs false
set_option maxRecDepth 100000
theorem ExO_is1_22 : Is1 Tryz.prog 22 := ⟨⟨_, Tryz.underlying22, rfl⟩, by kernel_rfl⟩
theorem ExO_is1_4 : Is1 Tryz.prog 4 := ⟨⟨_, Tryz.underlying4, rfl⟩, by kernel_rfl⟩
theorem ExO_fld_53_0 : FieldAt Tryz.prog 53 0 0 := ⟨_, _, Tryz.underlying53, rfl, rfl, by kernel_rfl⟩
theorem ExO_fld_53_1 : FieldAt Tryz.prog 53 1 1 := ⟨_, _, Tryz.underlying53, rfl, rfl, by kernel_rfl⟩
theorem ExO_isS_26 : IsS Tryz.prog 26 6 := ⟨⟨_, Tryz.underlying26⟩, by kernel_rfl⟩
theorem ExO_isS_53 : IsS Tryz.prog 53 2 := ⟨⟨_, Tryz.underlying53⟩, by kernel_rfl⟩
theorem zorder_any {w : World} {x y : Int} {so : Option Addr} {soc : Nat} (hso : Sc w so soc (words x.natAbs)) {uo : Option Addr} {uoc : Nat} (huo : Sc w uo uoc (words y.natAbs)) (lx : (words x.natAbs).length ≤ 49000) (ly : (words y.natAbs).length ≤ 49000) : Calls Tryz.prog 45 #[.agg #[.bool (rb x), .slice so (words x.natAbs).length soc], .agg #[.bool (rb y), .slice uo (words y.natAbs).length uoc]] w fun e w' => e = .returned (.int .i64 (cmpZ x y)) ∧ Below w.heap.size w w' := by
 have k1 : (words (-y).natAbs).length ≤ 49000 := by rw [Int.natAbs_neg]; exact ly
 have k2 := abs_add_len lx k1
 have hS : St w w [] [(uo, words y.natAbs), (so, words x.natAbs)] [] := ((St.start w).addR hso.rd).addR huo.rd
 refine walk_of (l := [(0, .agg #[.bool ((rb x)), .slice so ((words x.natAbs).length) soc]), (1, .agg #[.bool ((rb y)), .slice uo ((words y.natAbs).length) uoc])]) Tryz.func45 rfl Tryz.ntmps45 rfl rfl ?_
 intro Q hret hnorm hP a hA
 refine wp_seq_k (fun K1 hK1 => ?_)
 refine wp_region_lit ?_
 refine seq_new (vs := [.bool ((rb x)), .slice so ((words x.natAbs).length) soc]) (t := 53) hA hS rfl rfl rfl (fun g => .pointer (some ⟨g, 0, none⟩)) (d_box rfl rfl) rfl ?_
 intro g2 w3 hS a hA
 refine seq_new (vs := [.bool ((rb y)), .slice uo ((words y.natAbs).length) uoc]) (t := 53) hA hS rfl rfl rfl (fun g => .pointer (some ⟨g, 0, none⟩)) (d_box rfl rfl) rfl ?_
 intro g4 w5 hS a hA
 refine seq_do hA rfl rfl rfl (d_assign rfl) ?_
 intro a hA
 refine seq_end ?_
 refine hK1 _ _ ?_
 refine wp_seq_k (fun K6 hK6 => ?_)
 refine wp_seq_k (fun K7 hK7 => ?_)
 have hJ26 : ∀ a w1, (∃ (J21g : Nat) (J22 : Option Addr) (J23 : Nat), Sl a 18 [(0, .agg #[.bool ((rb x)), .slice so ((words x.natAbs).length) soc]), (1, .agg #[.bool ((rb y)), .slice uo ((words y.natAbs).length) uoc]), (4, .int .i64 0), (5, .pointer (some ⟨J21g, 0, none⟩))] ∧ St w w1 [(J21g, [.bool ((rb (x + (-y)))), .slice J22 ((words (x + (-y)).natAbs).length) J23]), (g4, [.bool ((rb y)), .slice uo ((words y.natAbs).length) uoc]), (g2, [.bool ((rb x)), .slice so ((words x.natAbs).length) soc])] [(J22, words (x + (-y)).natAbs), (uo, words y.natAbs), (so, words x.natAbs)] [] ∧ (J22 = none → J23 = 0) ∧ (words (x + (-y)).natAbs : List Nat).length ≤ J23) → K7 a w1 := by
   clear hA hS
   rintro a w27 ⟨J21g, J22, J23, hA, hS, hn24, hc25⟩
   refine hK7 _ _ ?_
   refine wp_block ?_
   refine wp_seq_k (fun K28 hK28 => ?_)
   refine wp_region_lit ?_
   refine seq_do (v := .pointer (some ⟨J21g, 0, none⟩)) hA rfl rfl rfl (d_field ExO_fld_53_0 rfl rfl) ?_
   intro a hA
   refine seq_do hA rfl rfl rfl (d_load1 hS ExO_is1_4 rfl 0 rfl rfl) ?_
   intro a hA
   refine seq_do hA rfl rfl rfl (d_assign rfl) ?_
   intro a hA
   refine seq_end ?_
   refine hK28 _ _ ?_
   refine wp_cond_split (t := (rb (x + (-y)))) (hA.ev rfl) (fun hc29 => ?_) (fun hc29 => ?_)
   · refine wp_seq_k (fun K30 hK30 => ?_)
     refine wp_region_lit ?_
     refine seq_do hA rfl rfl rfl (d_assign rfl) ?_
     intro a hA
     refine seq_end ?_
     refine hK30 _ _ ?_
     refine wp_ret ?_
     refine hret _ _ ?_
     refine ends (v := .int .i64 (-1)) hA rfl (.cons (res_tmp rfl) .nil) rfl ?_
     exact ⟨by rw [show cmpZ x y = -1 from by have h8 := of_decide_eq_true (show decide (x + -y < 0) = true from hc29); have h9 := words_pos_len (x + -y).natAbs; unfold cmpZ; split <;> (try split) <;> omega], hS.bel⟩
   · refine wp_seq_k (fun K31 hK31 => ?_)
     refine wp_region_lit ?_
     refine seq_do (v := .pointer (some ⟨J21g, 1, none⟩)) hA rfl rfl rfl (d_field ExO_fld_53_1 rfl rfl) ?_
     intro a hA
     refine seq_do hA rfl rfl rfl (d_load1 hS ExO_is1_22 rfl 0 rfl rfl) ?_
     intro a hA
     refine seq_do (v := .int .i64 ((((words (x + (-y)).natAbs).length : Nat) : Int))) hA rfl rfl rfl (d_len Tryz.underlying22 rfl) ?_
     intro a hA
     rcases Bool.eq_false_or_eq_true (((((words (x + (-y)).natAbs).length : Nat) : Int) == 0)) with hb32 | hb32
     · have hb32' := eq_of_beq hb32
       refine seq_do (v := .bool true) hA rfl rfl rfl (d_bin rfl rfl (fun w => (bin_eql w).trans (by rw [hb32]))) ?_
       intro a hA
       refine seq_do hA rfl rfl rfl (d_assign rfl) ?_
       intro a hA
       refine seq_end ?_
       refine hK31 _ _ ?_
       refine wp_cond_true (hA.ev rfl) ?_
       refine wp_seq_k (fun K33 hK33 => ?_)
       refine wp_region_lit ?_
       refine seq_do hA rfl rfl rfl (d_assign rfl) ?_
       intro a hA
       refine seq_end ?_
       refine hK33 _ _ ?_
       refine wp_ret ?_
       refine hret _ _ ?_
       refine ends (v := .int .i64 0) hA rfl (.cons (res_tmp rfl) .nil) rfl ?_
       exact ⟨by rw [show cmpZ x y = 0 from by have h8 := of_decide_eq_false (show decide (x + -y < 0) = false from hc29); have h9 := words_pos_len (x + -y).natAbs; unfold cmpZ; split <;> (try split) <;> omega], hS.bel⟩
     · have hb32' := ne_of_beq_false hb32
       refine seq_do (v := .bool false) hA rfl rfl rfl (d_bin rfl rfl (fun w => (bin_eql w).trans (by rw [hb32]))) ?_
       intro a hA
       refine seq_do hA rfl rfl rfl (d_assign rfl) ?_
       intro a hA
       refine seq_end ?_
       refine hK31 _ _ ?_
       refine wp_cond_false (hA.ev rfl) ?_
       refine wp_skip ?_
       refine hK6 _ _ ?_
       refine wp_seq_k (fun K34 hK34 => ?_)
       refine wp_region_lit ?_
       refine seq_do hA rfl rfl rfl (d_assign rfl) ?_
       intro a hA
       refine seq_end ?_
       refine hK34 _ _ ?_
       refine wp_ret ?_
       refine hret _ _ ?_
       refine ends (v := .int .i64 1) hA rfl (.cons (res_tmp rfl) .nil) rfl ?_
       exact ⟨by rw [show cmpZ x y = 1 from by have h8 := of_decide_eq_false (show decide (x + -y < 0) = false from hc29); have h9 := words_pos_len (x + -y).natAbs; unfold cmpZ; split <;> (try split) <;> omega], hS.bel⟩
 refine wp_draw (S := fun w1 => St w w1 [(g4, [.bool ((rb y)), .slice uo ((words y.natAbs).length) uoc]), (g2, [.bool ((rb x)), .slice so ((words x.natAbs).length) soc])] [(uo, words y.natAbs), (so, words x.natAbs)] []) (by kernel_rfl) ?_
 replace hS := hS.drew
 refine any_tk hA 0 rfl rfl rfl rfl hP hS (fun w1 hS => d_loadS hS ExO_isS_53 rfl 1 rfl (cs := [.bool ((rb x)), .slice so ((words x.natAbs).length) soc]) rfl rfl) ?_
 intro a hA
 refine any_tk hA 1 rfl rfl rfl rfl hP hS (fun w1 hS => d_loadS hS ExO_isS_53 rfl 0 rfl (cs := [.bool ((rb y)), .slice uo ((words y.natAbs).length) uoc]) rfl rfl) ?_
 intro a hA
 refine any_many (rs := [2, 4]) (by kernel_rfl) (by simp) ⟨?_, ?_, trivial⟩
 · refine op_call hA 2 rfl rfl rfl rfl (enters_func  rfl rfl (fun w => by kernel_rfl)) (zopp_any ⟨(hS.rd 0 rfl), huo.nil, huo.cap⟩) ?_
   rintro _ w39 ⟨zo35, zc36, rfl, hs37, hb38⟩
   replace hS := hS.call hb38
   replace hS := hS.addR hs37.rd
   refine ⟨_, rfl, (hS.partD (.refl _) 1 rfl (.refl _)), ?_⟩
   intro a hA
   refine any_many (rs := [3, 4]) (by kernel_rfl) (by simp) ⟨?_, ?_, trivial⟩
   · refine op_call hA 3 rfl rfl rfl rfl (enters_func  rfl rfl (fun w => by kernel_rfl)) (zplus_any ⟨(hS.rd 2 rfl), hso.nil, hso.cap⟩ ⟨(hS.rd 0 rfl), hs37.nil, hs37.cap⟩ (by omega) (by omega)) ?_
     rintro _ w44 ⟨zo40, zc41, rfl, hs42, hb43⟩
     replace hS := hS.call hb43
     replace hS := hS.addR hs42.rd
     refine ⟨_, rfl, (hS.partD (.refl _) 2 rfl (.refl _)), ?_⟩
     intro a hA
     refine any_one (by kernel_rfl) (op_new (vs := [.bool false, .slice none 0 0]) (t := 53) hA hS 4 rfl rfl rfl rfl (fun g => .pointer (some ⟨g, 0, none⟩)) (d_alloc (z := .agg #[.bool false, .slice none 0 0]) (by kernel_rfl) rfl) rfl ?_)
     intro g45 w46 hS
     refine ⟨(hS.partD (.cons _ (.cons_cons _ (.cons_cons _ .slnil))) 2 rfl (.refl _)), ?_⟩
     intro a hA
     refine any_one (by kernel_rfl) (op_store (us := [.bool ((rb (x + (-y)))), .slice zo40 ((words (x + (-y)).natAbs).length) zc41]) hA hS 5 rfl rfl rfl (sets_store (cs := [.bool ((rb (x + (-y)))), .slice zo40 ((words (x + (-y)).natAbs).length) zc41]) rfl rfl rfl (by kernel_rfl) hS 0 rfl rfl rfl) 0 rfl rfl rfl rfl ?_)
     intro w47 hS
     refine ⟨(hS.partD (.cons _ (.cons_cons _ (.cons_cons _ .slnil))) 2 rfl (.refl _)), ?_⟩
     refine any_end (by kernel_rfl) ?_
     refine hJ26 _ _ ⟨g45, zo40, zc41, hA.keep _ ⟨rfl, rfl, rfl, rfl, trivial⟩, ((hS.pickR [(zo40, words (x + (-y)).natAbs), (uo, words y.natAbs), (so, words x.natAbs)] ⟨⟨0, rfl⟩, ⟨⟨2, rfl⟩, ⟨⟨3, rfl⟩, trivial⟩⟩⟩).pickL [(g45, [.bool ((rb (x + (-y)))), .slice zo40 ((words (x + (-y)).natAbs).length) zc41]), (g4, [.bool ((rb y)), .slice uo ((words y.natAbs).length) uoc]), (g2, [.bool ((rb x)), .slice so ((words x.natAbs).length) soc])] [0, 1, 2] rfl (by decide)), hs42.nil, hs42.cap⟩
   · refine op_new (vs := [.bool false, .slice none 0 0]) (t := 53) hA hS 4 rfl rfl rfl rfl (fun g => .pointer (some ⟨g, 0, none⟩)) (d_alloc (z := .agg #[.bool false, .slice none 0 0]) (by kernel_rfl) rfl) rfl ?_
     intro g48 w49 hS
     refine ⟨(hS.partD (.cons _ (.cons_cons _ (.cons_cons _ .slnil))) 1 rfl (.refl _)), ?_⟩
     intro a hA
     refine any_one (by kernel_rfl) (op_call hA 3 rfl rfl rfl rfl (enters_func  rfl rfl (fun w => by kernel_rfl)) (zplus_any ⟨(hS.rd 2 rfl), hso.nil, hso.cap⟩ ⟨(hS.rd 0 rfl), hs37.nil, hs37.cap⟩ (by omega) (by omega)) ?_)
     rintro _ w54 ⟨zo50, zc51, rfl, hs52, hb53⟩
     replace hS := hS.call hb53
     replace hS := hS.addR hs52.rd
     refine ⟨_, rfl, (hS.partD (.cons _ (.cons_cons _ (.cons_cons _ .slnil))) 2 rfl (.refl _)), ?_⟩
     intro a hA
     refine any_one (by kernel_rfl) (op_store (us := [.bool ((rb (x + (-y)))), .slice zo50 ((words (x + (-y)).natAbs).length) zc51]) hA hS 5 rfl rfl rfl (sets_store (cs := [.bool ((rb (x + (-y)))), .slice zo50 ((words (x + (-y)).natAbs).length) zc51]) rfl rfl rfl (by kernel_rfl) hS 0 rfl rfl rfl) 0 rfl rfl rfl rfl ?_)
     intro w55 hS
     refine ⟨(hS.partD (.cons _ (.cons_cons _ (.cons_cons _ .slnil))) 2 rfl (.refl _)), ?_⟩
     refine any_end (by kernel_rfl) ?_
     refine hJ26 _ _ ⟨g48, zo50, zc51, hA.keep _ ⟨rfl, rfl, rfl, rfl, trivial⟩, ((hS.pickR [(zo50, words (x + (-y)).natAbs), (uo, words y.natAbs), (so, words x.natAbs)] ⟨⟨0, rfl⟩, ⟨⟨2, rfl⟩, ⟨⟨3, rfl⟩, trivial⟩⟩⟩).pickL [(g48, [.bool ((rb (x + (-y)))), .slice zo50 ((words (x + (-y)).natAbs).length) zc51]), (g4, [.bool ((rb y)), .slice uo ((words y.natAbs).length) uoc]), (g2, [.bool ((rb x)), .slice so ((words x.natAbs).length) soc])] [0, 1, 2] rfl (by decide)), hs52.nil, hs52.cap⟩
 · refine op_new (vs := [.bool false, .slice none 0 0]) (t := 53) hA hS 4 rfl rfl rfl rfl (fun g => .pointer (some ⟨g, 0, none⟩)) (d_alloc (z := .agg #[.bool false, .slice none 0 0]) (by kernel_rfl) rfl) rfl ?_
   intro g56 w57 hS
   refine ⟨(hS.partD (.cons _ (.cons_cons _ (.cons_cons _ .slnil))) 0 rfl (.refl _)), ?_⟩
   intro a hA
   refine any_one (by kernel_rfl) (op_call hA 2 rfl rfl rfl rfl (enters_func  rfl rfl (fun w => by kernel_rfl)) (zopp_any ⟨(hS.rd 0 rfl), huo.nil, huo.cap⟩) ?_)
   rintro _ w62 ⟨zo58, zc59, rfl, hs60, hb61⟩
   replace hS := hS.call hb61
   replace hS := hS.addR hs60.rd
   refine ⟨_, rfl, (hS.partD (.cons _ (.cons_cons _ (.cons_cons _ .slnil))) 1 rfl (.refl _)), ?_⟩
   intro a hA
   refine any_one (by kernel_rfl) (op_call hA 3 rfl rfl rfl rfl (enters_func  rfl rfl (fun w => by kernel_rfl)) (zplus_any ⟨(hS.rd 2 rfl), hso.nil, hso.cap⟩ ⟨(hS.rd 0 rfl), hs60.nil, hs60.cap⟩ (by omega) (by omega)) ?_)
   rintro _ w67 ⟨zo63, zc64, rfl, hs65, hb66⟩
   replace hS := hS.call hb66
   replace hS := hS.addR hs65.rd
   refine ⟨_, rfl, (hS.partD (.cons _ (.cons_cons _ (.cons_cons _ .slnil))) 2 rfl (.refl _)), ?_⟩
   intro a hA
   refine any_one (by kernel_rfl) (op_store (us := [.bool ((rb (x + (-y)))), .slice zo63 ((words (x + (-y)).natAbs).length) zc64]) hA hS 5 rfl rfl rfl (sets_store (cs := [.bool ((rb (x + (-y)))), .slice zo63 ((words (x + (-y)).natAbs).length) zc64]) rfl rfl rfl (by kernel_rfl) hS 0 rfl rfl rfl) 0 rfl rfl rfl rfl ?_)
   intro w68 hS
   refine ⟨(hS.partD (.cons _ (.cons_cons _ (.cons_cons _ .slnil))) 2 rfl (.refl _)), ?_⟩
   refine any_end (by kernel_rfl) ?_
   refine hJ26 _ _ ⟨g56, zo63, zc64, hA.keep _ ⟨rfl, rfl, rfl, rfl, trivial⟩, ((hS.pickR [(zo63, words (x + (-y)).natAbs), (uo, words y.natAbs), (so, words x.natAbs)] ⟨⟨0, rfl⟩, ⟨⟨2, rfl⟩, ⟨⟨3, rfl⟩, trivial⟩⟩⟩).pickL [(g56, [.bool ((rb (x + (-y)))), .slice zo63 ((words (x + (-y)).natAbs).length) zc64]), (g4, [.bool ((rb y)), .slice uo ((words y.natAbs).length) uoc]), (g2, [.bool ((rb x)), .slice so ((words x.natAbs).length) soc])] [0, 1, 2] rfl (by decide)), hs65.nil, hs65.cap⟩
theorem wantR2_any {w : World} {p : Q6} {a1 a2 a3 a4 : Option Addr} {ac1 ac2 ac3 ac4 : Nat} (ha : Nm w p a1 ac1 a2 ac2 a3 ac3 a4 ac4) (hl : LenQ p) {q : Q6} {b1 b2 b3 b4 : Option Addr} {bc1 bc2 bc3 bc4 : Nat} (hb : Nm w q b1 bc1 b2 bc2 b3 bc3 b4 bc4) (hm : LenQ q) {g : Nat} (hg : Blk w g [.bool p.b1, .slice a1 p.t1.length ac1, .slice a2 p.q1.length ac2, .bool p.b2, .slice a3 p.t2.length ac3, .slice a4 p.q2.length ac4, .bool q.b1, .slice b1 q.t1.length bc1, .slice b2 q.q1.length bc2, .bool q.b2, .slice b3 q.t2.length bc3, .slice b4 q.q2.length bc4]) {r : Int} (hr : wantR2 p q = r) : Calls Tryz.prog 42 #[.slice (some ⟨g, 0, none⟩) 2 2] w fun e w' => e = .returned (.int .i64 r) ∧ Below w.heap.size w w' := by
 have hS : St w w [] [(b4, q.q2), (b3, q.t2), (b2, q.q1), (b1, q.t1), (a4, p.q2), (a3, p.t2), (a2, p.q1), (a1, p.t1)] [] := ((((((((St.start w).addR ha.s1.rd).addR ha.s2.rd).addR ha.s3.rd).addR ha.s4.rd).addR hb.s1.rd).addR hb.s2.rd).addR hb.s3.rd).addR hb.s4.rd
 refine walk_of (l := [(0, .slice (some ⟨g, 0, none⟩) 2 2)]) Tryz.func42 rfl Tryz.ntmps42 rfl rfl ?_
 intro Q hret hnorm hP a hA
 refine wp_seq_k (fun K1 hK1 => ?_)
 refine wp_region_lit ?_
 refine seq_do hA rfl rfl rfl (d_assign rfl) ?_
 intro a hA
 refine seq_end ?_
 refine hK1 _ _ ?_
 refine wp_seq_k (fun K2 hK2 => ?_)
 refine wp_seq_k (fun K3 hK3 => ?_)
 refine wp_region_lit ?_
 refine seq_do hA rfl rfl rfl (d_move rfl) ?_
 intro a hA
 refine seq_do (v := .int .i64 2) hA rfl rfl rfl (d_len Tryz.underlying97 rfl) ?_
 intro a hA
 refine seq_do hA rfl rfl rfl (d_move rfl) ?_
 intro a hA
 refine seq_end ?_
 refine hK3 _ _ ?_
 refine wp_block ?_
 refine wp_loop_rounds 12 ?_
 refine rounds_k (fun K4 hK4 => ?_)
 refine wp_seq_k (fun K5 hK5 => ?_)
 refine wp_region_lit ?_
 refine seq_do (v := .bool true) hA rfl rfl rfl (d_bin rfl rfl (fun w => by kernel_rfl)) ?_
 intro a hA
 refine seq_end ?_
 refine hK5 _ _ ?_
 refine wp_seq_k (fun K6 hK6 => ?_)
 refine wp_cond_true (hA.ev rfl) ?_
 refine wp_skip ?_
 refine hK6 _ _ ?_
 refine wp_seq_k (fun K7 hK7 => ?_)
 refine wp_block ?_
 refine wp_seq_k (fun K8 hK8 => ?_)
 refine wp_region_lit ?_
 refine seq_do (v := .pointer (some ⟨g, 0, none⟩)) hA rfl rfl rfl (d_indexI rfl rfl (fun w => by kernel_rfl)) ?_
 intro a hA
 refine seq_do hA rfl rfl rfl (d_loadSF hS hg ExO_isS_26 rfl (cs := [.bool p.b1, .slice a1 p.t1.length ac1, .slice a2 p.q1.length ac2, .bool p.b2, .slice a3 p.t2.length ac3, .slice a4 p.q2.length ac4]) rfl rfl) ?_
 intro a hA
 refine seq_new (vs := [.bool false, .slice none 0 0, .slice none 0 0, .bool false, .slice none 0 0, .slice none 0 0]) (t := 26) hA hS rfl rfl rfl (fun g => .pointer (some ⟨g, 0, none⟩)) (d_alloc (z := .agg #[.bool false, .slice none 0 0, .slice none 0 0, .bool false, .slice none 0 0, .slice none 0 0]) (by kernel_rfl) rfl) rfl ?_
 intro g9 w10 hS a hA
 refine seq_store (us := [.bool p.b1, .slice a1 p.t1.length ac1, .slice a2 p.q1.length ac2, .bool p.b2, .slice a3 p.t2.length ac3, .slice a4 p.q2.length ac4]) hA hS rfl rfl (sets_store (cs := [.bool p.b1, .slice a1 p.t1.length ac1, .slice a2 p.q1.length ac2, .bool p.b2, .slice a3 p.t2.length ac3, .slice a4 p.q2.length ac4]) rfl rfl rfl (by kernel_rfl) hS 0 rfl rfl rfl) 0 rfl rfl rfl rfl ?_
 intro w11 hS
 refine seq_end ?_
 refine hK8 _ _ ?_
 refine wp_seq_k (fun K12 hK12 => ?_)
 refine wp_region_lit ?_
 refine seq_do hA rfl rfl rfl (d_loadS hS ExO_isS_26 rfl 0 rfl (cs := [.bool p.b1, .slice a1 p.t1.length ac1, .slice a2 p.q1.length ac2, .bool p.b2, .slice a3 p.t2.length ac3, .slice a4 p.q2.length ac4]) rfl rfl) ?_
 intro a hA
 rcases Bool.eq_false_or_eq_true (soundQ p) with hb13 | hb13
 · refine seq_call hA rfl rfl rfl (enters_func  rfl rfl (fun w => by kernel_rfl)) (soundQ_any (show Nm _ _ a1 ac1 a2 ac2 a3 ac3 a4 ac4 from ⟨⟨(hS.rd 7 rfl), ha.s1.nil, ha.s1.cap⟩, ⟨(hS.rd 6 rfl), ha.s2.nil, ha.s2.cap⟩, ⟨(hS.rd 5 rfl), ha.s3.nil, ha.s3.cap⟩, ⟨(hS.rd 4 rfl), ha.s4.nil, ha.s4.cap⟩⟩) hl hb13) ?_
   rintro _ w15 ⟨rfl, hb14⟩
   replace hS := hS.call hb14
   refine ⟨_, rfl, ?_⟩
   intro a hA
   refine seq_do (v := .bool false) hA rfl rfl rfl (d_un rfl un_not) ?_
   intro a hA
   refine seq_end ?_
   refine hK12 _ _ ?_
   refine wp_cond_false (hA.ev rfl) ?_
   refine wp_skip ?_
   refine hK7 _ _ ?_
   refine wp_region_lit ?_
   refine seq_do (v := .int .i64 1) hA rfl rfl rfl (d_bin rfl rfl (fun w => by kernel_rfl)) ?_
   intro a hA
   refine seq_do hA rfl rfl rfl (d_move rfl) ?_
   intro a hA
   refine seq_end ?_
   refine hK4 _ _ ?_
   refine rounds_k (fun K16 hK16 => ?_)
   refine wp_seq_k (fun K17 hK17 => ?_)
   refine wp_region_lit ?_
   refine seq_do (v := .bool true) hA rfl rfl rfl (d_bin rfl rfl (fun w => by kernel_rfl)) ?_
   intro a hA
   refine seq_end ?_
   refine hK17 _ _ ?_
   refine wp_seq_k (fun K18 hK18 => ?_)
   refine wp_cond_true (hA.ev rfl) ?_
   refine wp_skip ?_
   refine hK18 _ _ ?_
   refine wp_seq_k (fun K19 hK19 => ?_)
   refine wp_block ?_
   refine wp_seq_k (fun K20 hK20 => ?_)
   refine wp_region_lit ?_
   refine seq_do (v := .pointer (some ⟨g, 6, none⟩)) hA rfl rfl rfl (d_indexI rfl rfl (fun w => by kernel_rfl)) ?_
   intro a hA
   refine seq_do hA rfl rfl rfl (d_loadSF hS hg ExO_isS_26 rfl (cs := [.bool q.b1, .slice b1 q.t1.length bc1, .slice b2 q.q1.length bc2, .bool q.b2, .slice b3 q.t2.length bc3, .slice b4 q.q2.length bc4]) rfl rfl) ?_
   intro a hA
   refine seq_new (vs := [.bool false, .slice none 0 0, .slice none 0 0, .bool false, .slice none 0 0, .slice none 0 0]) (t := 26) hA hS rfl rfl rfl (fun g => .pointer (some ⟨g, 0, none⟩)) (d_alloc (z := .agg #[.bool false, .slice none 0 0, .slice none 0 0, .bool false, .slice none 0 0, .slice none 0 0]) (by kernel_rfl) rfl) rfl ?_
   intro g21 w22 hS a hA
   refine seq_store (us := [.bool q.b1, .slice b1 q.t1.length bc1, .slice b2 q.q1.length bc2, .bool q.b2, .slice b3 q.t2.length bc3, .slice b4 q.q2.length bc4]) hA hS rfl rfl (sets_store (cs := [.bool q.b1, .slice b1 q.t1.length bc1, .slice b2 q.q1.length bc2, .bool q.b2, .slice b3 q.t2.length bc3, .slice b4 q.q2.length bc4]) rfl rfl rfl (by kernel_rfl) hS 0 rfl rfl rfl) 0 rfl rfl rfl rfl ?_
   intro w23 hS
   refine seq_end ?_
   refine hK20 _ _ ?_
   refine wp_seq_k (fun K24 hK24 => ?_)
   refine wp_region_lit ?_
   refine seq_do hA rfl rfl rfl (d_loadS hS ExO_isS_26 rfl 0 rfl (cs := [.bool q.b1, .slice b1 q.t1.length bc1, .slice b2 q.q1.length bc2, .bool q.b2, .slice b3 q.t2.length bc3, .slice b4 q.q2.length bc4]) rfl rfl) ?_
   intro a hA
   rcases Bool.eq_false_or_eq_true (soundQ q) with hb25 | hb25
   · refine seq_call hA rfl rfl rfl (enters_func  rfl rfl (fun w => by kernel_rfl)) (soundQ_any (show Nm _ _ b1 bc1 b2 bc2 b3 bc3 b4 bc4 from ⟨⟨(hS.rd 3 rfl), hb.s1.nil, hb.s1.cap⟩, ⟨(hS.rd 2 rfl), hb.s2.nil, hb.s2.cap⟩, ⟨(hS.rd 1 rfl), hb.s3.nil, hb.s3.cap⟩, ⟨(hS.rd 0 rfl), hb.s4.nil, hb.s4.cap⟩⟩) hm hb25) ?_
     rintro _ w27 ⟨rfl, hb26⟩
     replace hS := hS.call hb26
     refine ⟨_, rfl, ?_⟩
     intro a hA
     refine seq_do (v := .bool false) hA rfl rfl rfl (d_un rfl un_not) ?_
     intro a hA
     refine seq_end ?_
     refine hK24 _ _ ?_
     refine wp_cond_false (hA.ev rfl) ?_
     refine wp_skip ?_
     refine hK19 _ _ ?_
     refine wp_region_lit ?_
     refine seq_do (v := .int .i64 2) hA rfl rfl rfl (d_bin rfl rfl (fun w => by kernel_rfl)) ?_
     intro a hA
     refine seq_do hA rfl rfl rfl (d_move rfl) ?_
     intro a hA
     refine seq_end ?_
     refine hK16 _ _ ?_
     refine rounds_k (fun K28 hK28 => ?_)
     refine wp_seq_k (fun K29 hK29 => ?_)
     refine wp_region_lit ?_
     refine seq_do (v := .bool false) hA rfl rfl rfl (d_bin rfl rfl (fun w => by kernel_rfl)) ?_
     intro a hA
     refine seq_end ?_
     refine hK29 _ _ ?_
     refine wp_seq_k (fun K30 hK30 => ?_)
     refine wp_cond_false (hA.ev rfl) ?_
     refine wp_exit ?_
     refine hK2 _ _ ?_
     refine wp_seq_k (fun K31 hK31 => ?_)
     refine wp_seq_k (fun K32 hK32 => ?_)
     refine wp_region_lit ?_
     refine seq_do hA rfl rfl rfl (d_move rfl) ?_
     intro a hA
     refine seq_do (v := .int .i64 2) hA rfl rfl rfl (d_len Tryz.underlying97 rfl) ?_
     intro a hA
     refine seq_do hA rfl rfl rfl (d_move rfl) ?_
     intro a hA
     refine seq_end ?_
     refine hK32 _ _ ?_
     refine wp_block ?_
     refine wp_loop_rounds 12 ?_
     refine rounds_k (fun K33 hK33 => ?_)
     refine wp_seq_k (fun K34 hK34 => ?_)
     refine wp_region_lit ?_
     refine seq_do (v := .bool true) hA rfl rfl rfl (d_bin rfl rfl (fun w => by kernel_rfl)) ?_
     intro a hA
     refine seq_end ?_
     refine hK34 _ _ ?_
     refine wp_seq_k (fun K35 hK35 => ?_)
     refine wp_cond_true (hA.ev rfl) ?_
     refine wp_skip ?_
     refine hK35 _ _ ?_
     refine wp_seq_k (fun K36 hK36 => ?_)
     refine wp_block ?_
     refine wp_seq_k (fun K37 hK37 => ?_)
     refine wp_region_lit ?_
     refine seq_do (v := .pointer (some ⟨g, 0, none⟩)) hA rfl rfl rfl (d_indexI rfl rfl (fun w => by kernel_rfl)) ?_
     intro a hA
     refine seq_do hA rfl rfl rfl (d_loadSF hS hg ExO_isS_26 rfl (cs := [.bool p.b1, .slice a1 p.t1.length ac1, .slice a2 p.q1.length ac2, .bool p.b2, .slice a3 p.t2.length ac3, .slice a4 p.q2.length ac4]) rfl rfl) ?_
     intro a hA
     refine seq_new (vs := [.bool false, .slice none 0 0, .slice none 0 0, .bool false, .slice none 0 0, .slice none 0 0]) (t := 26) hA hS rfl rfl rfl (fun g => .pointer (some ⟨g, 0, none⟩)) (d_alloc (z := .agg #[.bool false, .slice none 0 0, .slice none 0 0, .bool false, .slice none 0 0, .slice none 0 0]) (by kernel_rfl) rfl) rfl ?_
     intro g38 w39 hS a hA
     refine seq_store (us := [.bool p.b1, .slice a1 p.t1.length ac1, .slice a2 p.q1.length ac2, .bool p.b2, .slice a3 p.t2.length ac3, .slice a4 p.q2.length ac4]) hA hS rfl rfl (sets_store (cs := [.bool p.b1, .slice a1 p.t1.length ac1, .slice a2 p.q1.length ac2, .bool p.b2, .slice a3 p.t2.length ac3, .slice a4 p.q2.length ac4]) rfl rfl rfl (by kernel_rfl) hS 0 rfl rfl rfl) 0 rfl rfl rfl rfl ?_
     intro w40 hS
     refine seq_end ?_
     refine hK37 _ _ ?_
     refine wp_seq_k (fun K41 hK41 => ?_)
     refine wp_region_lit ?_
     refine seq_do hA rfl rfl rfl (d_loadS hS ExO_isS_26 rfl 0 rfl (cs := [.bool p.b1, .slice a1 p.t1.length ac1, .slice a2 p.q1.length ac2, .bool p.b2, .slice a3 p.t2.length ac3, .slice a4 p.q2.length ac4]) rfl rfl) ?_
     intro a hA
     rcases Bool.eq_false_or_eq_true (decide (p.t2.length = 0)) with hb42 | hb42
     · have hb42' := of_decide_eq_true hb42
       refine seq_call hA rfl rfl rfl (enters_func  rfl rfl (fun w => by kernel_rfl)) (isRealQ_any (q := p) hl hb42) ?_
       rintro _ w44 ⟨rfl, hb43⟩
       replace hS := hS.call hb43
       refine ⟨_, rfl, ?_⟩
       intro a hA
       refine seq_do (v := .bool false) hA rfl rfl rfl (d_un rfl un_not) ?_
       intro a hA
       refine seq_end ?_
       refine hK41 _ _ ?_
       refine wp_cond_false (hA.ev rfl) ?_
       refine wp_skip ?_
       refine hK36 _ _ ?_
       refine wp_region_lit ?_
       refine seq_do (v := .int .i64 1) hA rfl rfl rfl (d_bin rfl rfl (fun w => by kernel_rfl)) ?_
       intro a hA
       refine seq_do hA rfl rfl rfl (d_move rfl) ?_
       intro a hA
       refine seq_end ?_
       refine hK33 _ _ ?_
       refine rounds_k (fun K45 hK45 => ?_)
       refine wp_seq_k (fun K46 hK46 => ?_)
       refine wp_region_lit ?_
       refine seq_do (v := .bool true) hA rfl rfl rfl (d_bin rfl rfl (fun w => by kernel_rfl)) ?_
       intro a hA
       refine seq_end ?_
       refine hK46 _ _ ?_
       refine wp_seq_k (fun K47 hK47 => ?_)
       refine wp_cond_true (hA.ev rfl) ?_
       refine wp_skip ?_
       refine hK47 _ _ ?_
       refine wp_seq_k (fun K48 hK48 => ?_)
       refine wp_block ?_
       refine wp_seq_k (fun K49 hK49 => ?_)
       refine wp_region_lit ?_
       refine seq_do (v := .pointer (some ⟨g, 6, none⟩)) hA rfl rfl rfl (d_indexI rfl rfl (fun w => by kernel_rfl)) ?_
       intro a hA
       refine seq_do hA rfl rfl rfl (d_loadSF hS hg ExO_isS_26 rfl (cs := [.bool q.b1, .slice b1 q.t1.length bc1, .slice b2 q.q1.length bc2, .bool q.b2, .slice b3 q.t2.length bc3, .slice b4 q.q2.length bc4]) rfl rfl) ?_
       intro a hA
       refine seq_new (vs := [.bool false, .slice none 0 0, .slice none 0 0, .bool false, .slice none 0 0, .slice none 0 0]) (t := 26) hA hS rfl rfl rfl (fun g => .pointer (some ⟨g, 0, none⟩)) (d_alloc (z := .agg #[.bool false, .slice none 0 0, .slice none 0 0, .bool false, .slice none 0 0, .slice none 0 0]) (by kernel_rfl) rfl) rfl ?_
       intro g50 w51 hS a hA
       refine seq_store (us := [.bool q.b1, .slice b1 q.t1.length bc1, .slice b2 q.q1.length bc2, .bool q.b2, .slice b3 q.t2.length bc3, .slice b4 q.q2.length bc4]) hA hS rfl rfl (sets_store (cs := [.bool q.b1, .slice b1 q.t1.length bc1, .slice b2 q.q1.length bc2, .bool q.b2, .slice b3 q.t2.length bc3, .slice b4 q.q2.length bc4]) rfl rfl rfl (by kernel_rfl) hS 0 rfl rfl rfl) 0 rfl rfl rfl rfl ?_
       intro w52 hS
       refine seq_end ?_
       refine hK49 _ _ ?_
       refine wp_seq_k (fun K53 hK53 => ?_)
       refine wp_region_lit ?_
       refine seq_do hA rfl rfl rfl (d_loadS hS ExO_isS_26 rfl 0 rfl (cs := [.bool q.b1, .slice b1 q.t1.length bc1, .slice b2 q.q1.length bc2, .bool q.b2, .slice b3 q.t2.length bc3, .slice b4 q.q2.length bc4]) rfl rfl) ?_
       intro a hA
       rcases Bool.eq_false_or_eq_true (decide (q.t2.length = 0)) with hb54 | hb54
       · have hb54' := of_decide_eq_true hb54
         refine seq_call hA rfl rfl rfl (enters_func  rfl rfl (fun w => by kernel_rfl)) (isRealQ_any (q := q) hm hb54) ?_
         rintro _ w56 ⟨rfl, hb55⟩
         replace hS := hS.call hb55
         refine ⟨_, rfl, ?_⟩
         intro a hA
         refine seq_do (v := .bool false) hA rfl rfl rfl (d_un rfl un_not) ?_
         intro a hA
         refine seq_end ?_
         refine hK53 _ _ ?_
         refine wp_cond_false (hA.ev rfl) ?_
         refine wp_skip ?_
         refine hK48 _ _ ?_
         refine wp_region_lit ?_
         refine seq_do (v := .int .i64 2) hA rfl rfl rfl (d_bin rfl rfl (fun w => by kernel_rfl)) ?_
         intro a hA
         refine seq_do hA rfl rfl rfl (d_move rfl) ?_
         intro a hA
         refine seq_end ?_
         refine hK45 _ _ ?_
         refine rounds_k (fun K57 hK57 => ?_)
         refine wp_seq_k (fun K58 hK58 => ?_)
         refine wp_region_lit ?_
         refine seq_do (v := .bool false) hA rfl rfl rfl (d_bin rfl rfl (fun w => by kernel_rfl)) ?_
         intro a hA
         refine seq_end ?_
         refine hK58 _ _ ?_
         refine wp_seq_k (fun K59 hK59 => ?_)
         refine wp_cond_false (hA.ev rfl) ?_
         refine wp_exit ?_
         refine hK31 _ _ ?_
         refine wp_seq_k (fun K60 hK60 => ?_)
         refine wp_region_lit ?_
         refine seq_do hA rfl rfl rfl (d_assign rfl) ?_
         intro a hA
         refine seq_end ?_
         refine hK60 _ _ ?_
         refine wp_ret ?_
         refine hret _ _ ?_
         refine ends (v := .int .i64 0) hA rfl (.cons (res_tmp rfl) .nil) rfl ?_
         subst hr
         have f2 := of_decide_eq_true hb42
         have f3 := of_decide_eq_true hb54
         exact ⟨by simp [wantR2, hb13, hb25, f2, f3], hS.bel⟩
       · have hb54' := of_decide_eq_false hb54
         refine seq_call hA rfl rfl rfl (enters_func  rfl rfl (fun w => by kernel_rfl)) (isRealQ_any (q := q) hm hb54) ?_
         rintro _ w62 ⟨rfl, hb61⟩
         replace hS := hS.call hb61
         refine ⟨_, rfl, ?_⟩
         intro a hA
         refine seq_do (v := .bool true) hA rfl rfl rfl (d_un rfl un_not) ?_
         intro a hA
         refine seq_end ?_
         refine hK53 _ _ ?_
         refine wp_cond_true (hA.ev rfl) ?_
         refine wp_seq_k (fun K63 hK63 => ?_)
         refine wp_region_lit ?_
         refine seq_do hA rfl rfl rfl (d_assign rfl) ?_
         intro a hA
         refine seq_end ?_
         refine hK63 _ _ ?_
         refine wp_ret ?_
         refine hret _ _ ?_
         refine ends (v := .int .i64 10) hA rfl (.cons (res_tmp rfl) .nil) rfl ?_
         subst hr
         have f2 := of_decide_eq_true hb42
         have f3 := of_decide_eq_false hb54
         exact ⟨by simp [wantR2, hb13, hb25, f2, f3], hS.bel⟩
     · have hb42' := of_decide_eq_false hb42
       refine seq_call hA rfl rfl rfl (enters_func  rfl rfl (fun w => by kernel_rfl)) (isRealQ_any (q := p) hl hb42) ?_
       rintro _ w65 ⟨rfl, hb64⟩
       replace hS := hS.call hb64
       refine ⟨_, rfl, ?_⟩
       intro a hA
       refine seq_do (v := .bool true) hA rfl rfl rfl (d_un rfl un_not) ?_
       intro a hA
       refine seq_end ?_
       refine hK41 _ _ ?_
       refine wp_cond_true (hA.ev rfl) ?_
       refine wp_seq_k (fun K66 hK66 => ?_)
       refine wp_region_lit ?_
       refine seq_do hA rfl rfl rfl (d_assign rfl) ?_
       intro a hA
       refine seq_end ?_
       refine hK66 _ _ ?_
       refine wp_ret ?_
       refine hret _ _ ?_
       refine ends (v := .int .i64 10) hA rfl (.cons (res_tmp rfl) .nil) rfl ?_
       subst hr
       have f2 := of_decide_eq_false hb42
       exact ⟨by simp [wantR2, hb13, hb25, f2], hS.bel⟩
   · refine seq_call hA rfl rfl rfl (enters_func  rfl rfl (fun w => by kernel_rfl)) (soundQ_any (show Nm _ _ b1 bc1 b2 bc2 b3 bc3 b4 bc4 from ⟨⟨(hS.rd 3 rfl), hb.s1.nil, hb.s1.cap⟩, ⟨(hS.rd 2 rfl), hb.s2.nil, hb.s2.cap⟩, ⟨(hS.rd 1 rfl), hb.s3.nil, hb.s3.cap⟩, ⟨(hS.rd 0 rfl), hb.s4.nil, hb.s4.cap⟩⟩) hm hb25) ?_
     rintro _ w68 ⟨rfl, hb67⟩
     replace hS := hS.call hb67
     refine ⟨_, rfl, ?_⟩
     intro a hA
     refine seq_do (v := .bool true) hA rfl rfl rfl (d_un rfl un_not) ?_
     intro a hA
     refine seq_end ?_
     refine hK24 _ _ ?_
     refine wp_cond_true (hA.ev rfl) ?_
     refine wp_seq_k (fun K69 hK69 => ?_)
     refine wp_region_lit ?_
     refine seq_do hA rfl rfl rfl (d_assign rfl) ?_
     intro a hA
     refine seq_end ?_
     refine hK69 _ _ ?_
     refine wp_ret ?_
     refine hret _ _ ?_
     refine ends (v := .int .i64 2) hA rfl (.cons (res_tmp rfl) .nil) rfl ?_
     subst hr
     exact ⟨by simp [wantR2, hb13, hb25], hS.bel⟩
 · refine seq_call hA rfl rfl rfl (enters_func  rfl rfl (fun w => by kernel_rfl)) (soundQ_any (show Nm _ _ a1 ac1 a2 ac2 a3 ac3 a4 ac4 from ⟨⟨(hS.rd 7 rfl), ha.s1.nil, ha.s1.cap⟩, ⟨(hS.rd 6 rfl), ha.s2.nil, ha.s2.cap⟩, ⟨(hS.rd 5 rfl), ha.s3.nil, ha.s3.cap⟩, ⟨(hS.rd 4 rfl), ha.s4.nil, ha.s4.cap⟩⟩) hl hb13) ?_
   rintro _ w71 ⟨rfl, hb70⟩
   replace hS := hS.call hb70
   refine ⟨_, rfl, ?_⟩
   intro a hA
   refine seq_do (v := .bool true) hA rfl rfl rfl (d_un rfl un_not) ?_
   intro a hA
   refine seq_end ?_
   refine hK12 _ _ ?_
   refine wp_cond_true (hA.ev rfl) ?_
   refine wp_seq_k (fun K72 hK72 => ?_)
   refine wp_region_lit ?_
   refine seq_do hA rfl rfl rfl (d_assign rfl) ?_
   intro a hA
   refine seq_end ?_
   refine hK72 _ _ ?_
   refine wp_ret ?_
   refine hret _ _ ?_
   refine ends (v := .int .i64 2) hA rfl (.cons (res_tmp rfl) .nil) rfl ?_
   subst hr
   exact ⟨by simp [wantR2, hb13], hS.bel⟩
end Go.Proofs.YthlkbnhbmfmchaaGreat
namespace Go.Proofs.YthlkbnhbmfmchaaGreat
open Go.RowKit
set_option linter.unusedVariables false
set_option linter.unusedSimpArgs false
set_option maxRecDepth 100000
theorem ExP_is1_22 : Is1 Tryz.prog 22 := ⟨⟨_, Tryz.underlying22, rfl⟩, by kernel_rfl⟩
theorem ExP_fld_55_0 : FieldAt Tryz.prog 55 0 0 := ⟨_, _, Tryz.underlying55, rfl, rfl, by kernel_rfl⟩
theorem ExP_fld_55_2 : FieldAt Tryz.prog 55 2 4 := ⟨_, _, Tryz.underlying55, rfl, rfl, by kernel_rfl⟩
theorem ExP_isS_26 : IsS Tryz.prog 26 6 := ⟨⟨_, Tryz.underlying26⟩, by kernel_rfl⟩
theorem ExP_isS_53 : IsS Tryz.prog 53 2 := ⟨⟨_, Tryz.underlying53⟩, by kernel_rfl⟩
theorem cmpE_any {w : World} {p q : Q6} {a1 a2 a3 a4 : Option Addr} {ac1 ac2 ac3 ac4 : Nat} (ha : Nm w p a1 ac1 a2 ac2 a3 ac3 a4 ac4) (hl : LenQ p) {u1 u2 u3 u4 : Option Addr} {uc1 uc2 uc3 uc4 : Nat} (hb : Nm w q u1 uc1 u2 uc2 u3 uc3 u4 uc4) (hm : LenQ q) (hw : (wantR2 p q != 0) = true) : Calls Tryz.prog 12 #[numV p a1 ac1 a2 ac2 a3 ac3 a4 ac4, numV q u1 uc1 u2 uc2 u3 uc3 u4 uc4] w fun e w' => e = .returned (.tuple #[.int .i64 0, .int .i64 (wantR2 p q)]) ∧ Below w.heap.size w w' := by
 have hS : St w w [] [(u4, q.q2), (u3, q.t2), (u2, q.q1), (u1, q.t1), (a4, p.q2), (a3, p.t2), (a2, p.q1), (a1, p.t1)] [] := ((((((((St.start w).addR ha.s1.rd).addR ha.s2.rd).addR ha.s3.rd).addR ha.s4.rd).addR hb.s1.rd).addR hb.s2.rd).addR hb.s3.rd).addR hb.s4.rd
 refine walk_of (l := [(0, .agg #[.bool p.b1, .slice a1 p.t1.length ac1, .slice a2 p.q1.length ac2, .bool p.b2, .slice a3 p.t2.length ac3, .slice a4 p.q2.length ac4]), (1, .agg #[.bool q.b1, .slice u1 q.t1.length uc1, .slice u2 q.q1.length uc2, .bool q.b2, .slice u3 q.t2.length uc3, .slice u4 q.q2.length uc4])]) Tryz.func12 rfl Tryz.ntmps12 rfl rfl ?_
 intro Q hret hnorm hP a hA
 refine wp_seq_k (fun K1 hK1 => ?_)
 refine wp_region_lit ?_
 refine seq_new (vs := [.bool p.b1, .slice a1 p.t1.length ac1, .slice a2 p.q1.length ac2, .bool p.b2, .slice a3 p.t2.length ac3, .slice a4 p.q2.length ac4]) (t := 26) hA hS rfl rfl rfl (fun g => .pointer (some ⟨g, 0, none⟩)) (d_box rfl rfl) rfl ?_
 intro g2 w3 hS a hA
 refine seq_new (vs := [.bool q.b1, .slice u1 q.t1.length uc1, .slice u2 q.q1.length uc2, .bool q.b2, .slice u3 q.t2.length uc3, .slice u4 q.q2.length uc4]) (t := 26) hA hS rfl rfl rfl (fun g => .pointer (some ⟨g, 0, none⟩)) (d_box rfl rfl) rfl ?_
 intro g4 w5 hS a hA
 refine seq_do hA rfl rfl rfl (d_assign rfl) ?_
 intro a hA
 refine seq_do hA rfl rfl rfl (d_assign rfl) ?_
 intro a hA
 refine seq_end ?_
 refine hK1 _ _ ?_
 refine wp_seq_k (fun K6 hK6 => ?_)
 refine wp_seq_k (fun K7 hK7 => ?_)
 refine wp_region_lit ?_
 refine seq_do hA rfl rfl rfl (d_loadS hS ExP_isS_26 rfl 1 rfl (cs := [.bool p.b1, .slice a1 p.t1.length ac1, .slice a2 p.q1.length ac2, .bool p.b2, .slice a3 p.t2.length ac3, .slice a4 p.q2.length ac4]) rfl rfl) ?_
 intro a hA
 refine seq_do hA rfl rfl rfl (d_loadS hS ExP_isS_26 rfl 0 rfl (cs := [.bool q.b1, .slice u1 q.t1.length uc1, .slice u2 q.q1.length uc2, .bool q.b2, .slice u3 q.t2.length uc3, .slice u4 q.q2.length uc4]) rfl rfl) ?_
 intro a hA
 refine seq_new (vs := [.bool p.b1, .slice a1 p.t1.length ac1, .slice a2 p.q1.length ac2, .bool p.b2, .slice a3 p.t2.length ac3, .slice a4 p.q2.length ac4, .bool q.b1, .slice u1 q.t1.length uc1, .slice u2 q.q1.length uc2, .bool q.b2, .slice u3 q.t2.length uc3, .slice u4 q.q2.length uc4]) (t := 26) hA hS rfl rfl rfl (fun g => .slice (some ⟨g, 0, none⟩) 2 2) (d_buildSlice rfl (by kernel_rfl)) rfl ?_
 intro g8 w9 hS a hA
 refine seq_call hA rfl rfl rfl (enters_func  rfl rfl (fun w => by kernel_rfl)) (wantR2_any (show Nm _ p a1 ac1 a2 ac2 a3 ac3 a4 ac4 from ⟨⟨(hS.rd 7 rfl), ha.s1.nil, ha.s1.cap⟩, ⟨(hS.rd 6 rfl), ha.s2.nil, ha.s2.cap⟩, ⟨(hS.rd 5 rfl), ha.s3.nil, ha.s3.cap⟩, ⟨(hS.rd 4 rfl), ha.s4.nil, ha.s4.cap⟩⟩) hl (show Nm _ q u1 uc1 u2 uc2 u3 uc3 u4 uc4 from ⟨⟨(hS.rd 3 rfl), hb.s1.nil, hb.s1.cap⟩, ⟨(hS.rd 2 rfl), hb.s2.nil, hb.s2.cap⟩, ⟨(hS.rd 1 rfl), hb.s3.nil, hb.s3.cap⟩, ⟨(hS.rd 0 rfl), hb.s4.nil, hb.s4.cap⟩⟩) hm (hS.blk 0 rfl) rfl) ?_
 rintro _ w11 ⟨rfl, hb10⟩
 replace hS := hS.call hb10
 refine ⟨_, rfl, ?_⟩
 intro a hA
 refine seq_do hA rfl rfl rfl (d_assign rfl) ?_
 intro a hA
 refine seq_end ?_
 refine hK7 _ _ ?_
 refine wp_seq_k (fun K12 hK12 => ?_)
 refine wp_region_lit ?_
 refine seq_do hA rfl rfl rfl (d_move rfl) ?_
 intro a hA
 refine seq_do (v := .bool true) hA rfl rfl rfl (d_bin rfl rfl (fun w => (bin_neq w).trans (by rw [show ((wantR2 p q != 0)) = true from hw]))) ?_
 intro a hA
 refine seq_end ?_
 refine hK12 _ _ ?_
 refine wp_cond_true (hA.ev rfl) ?_
 refine wp_seq_k (fun K13 hK13 => ?_)
 refine wp_region_lit ?_
 refine seq_do hA rfl rfl rfl (d_move rfl) ?_
 intro a hA
 refine seq_do hA rfl rfl rfl (d_assign rfl) ?_
 intro a hA
 refine seq_do hA rfl rfl rfl (d_assign rfl) ?_
 intro a hA
 refine seq_end ?_
 refine hK13 _ _ ?_
 refine wp_ret ?_
 refine hret _ _ ?_
 refine ends (v := .tuple #[.int .i64 0, .int .i64 (wantR2 p q)]) hA rfl (.cons (res_tmp rfl) (.cons (res_tmp rfl) .nil)) rfl ?_
 exact ⟨rfl, hS.bel⟩
theorem cmpW_any {w : World} {u v x y : Rat} {a1 a2 a3 a4 : Option Addr} {ac1 ac2 ac3 ac4 : Nat} (ha : Nm w (Q6.rat u v) a1 ac1 a2 ac2 a3 ac3 a4 ac4) {u1 u2 u3 u4 : Option Addr} {uc1 uc2 uc3 uc4 : Nat} (hb : Nm w (Q6.rat x y) u1 uc1 u2 uc2 u3 uc3 u4 uc4) (hu : fitR u) (hv : fitR v) (hx : fitR x) (hy : fitR y) (hw : wantR2 (Q6.rat u v) (Q6.rat x y) = 0) : Calls Tryz.prog 12 #[numV (Q6.rat u v) a1 ac1 a2 ac2 a3 ac3 a4 ac4, numV (Q6.rat x y) u1 uc1 u2 uc2 u3 uc3 u4 uc4] w fun e w' => e = .returned (.tuple #[.int .i64 (cmpR u x), .int .i64 0]) ∧ Below w.heap.size w w' := by
 have m1 := spX_len hu hv
 have m3 := spD_len hu hv
 have m4 := spX_len hx hy
 have m6 := spD_len hx hy
 have n1 := abs_mul_len m1 (nat_abs_len m6)
 have n2 := abs_mul_len m4 (nat_abs_len m3)
 have hS : St w w [] [(u4, words y.den), (u3, words y.num.natAbs), (u2, words x.den), (u1, words x.num.natAbs), (a4, words v.den), (a3, words v.num.natAbs), (a2, words u.den), (a1, words u.num.natAbs)] [] := ((((((((St.start w).addR ha.s1.rd).addR ha.s2.rd).addR ha.s3.rd).addR ha.s4.rd).addR hb.s1.rd).addR hb.s2.rd).addR hb.s3.rd).addR hb.s4.rd
 refine walk_of (l := [(0, .agg #[.bool (rb u.num), .slice a1 ((words u.num.natAbs).length) ac1, .slice a2 ((words u.den).length) ac2, .bool (rb v.num), .slice a3 ((words v.num.natAbs).length) ac3, .slice a4 ((words v.den).length) ac4]), (1, .agg #[.bool (rb x.num), .slice u1 ((words x.num.natAbs).length) uc1, .slice u2 ((words x.den).length) uc2, .bool (rb y.num), .slice u3 ((words y.num.natAbs).length) uc3, .slice u4 ((words y.den).length) uc4])]) Tryz.func12 rfl Tryz.ntmps12 rfl rfl ?_
 intro Q hret hnorm hP a hA
 refine wp_seq_k (fun K1 hK1 => ?_)
 refine wp_region_lit ?_
 refine seq_new (vs := [.bool (rb u.num), .slice a1 ((words u.num.natAbs).length) ac1, .slice a2 ((words u.den).length) ac2, .bool (rb v.num), .slice a3 ((words v.num.natAbs).length) ac3, .slice a4 ((words v.den).length) ac4]) (t := 26) hA hS rfl rfl rfl (fun g => .pointer (some ⟨g, 0, none⟩)) (d_box rfl rfl) rfl ?_
 intro g2 w3 hS a hA
 refine seq_new (vs := [.bool (rb x.num), .slice u1 ((words x.num.natAbs).length) uc1, .slice u2 ((words x.den).length) uc2, .bool (rb y.num), .slice u3 ((words y.num.natAbs).length) uc3, .slice u4 ((words y.den).length) uc4]) (t := 26) hA hS rfl rfl rfl (fun g => .pointer (some ⟨g, 0, none⟩)) (d_box rfl rfl) rfl ?_
 intro g4 w5 hS a hA
 refine seq_do hA rfl rfl rfl (d_assign rfl) ?_
 intro a hA
 refine seq_do hA rfl rfl rfl (d_assign rfl) ?_
 intro a hA
 refine seq_end ?_
 refine hK1 _ _ ?_
 refine wp_seq_k (fun K6 hK6 => ?_)
 refine wp_seq_k (fun K7 hK7 => ?_)
 refine wp_region_lit ?_
 refine seq_do hA rfl rfl rfl (d_loadS hS ExP_isS_26 rfl 1 rfl (cs := [.bool (rb u.num), .slice a1 ((words u.num.natAbs).length) ac1, .slice a2 ((words u.den).length) ac2, .bool (rb v.num), .slice a3 ((words v.num.natAbs).length) ac3, .slice a4 ((words v.den).length) ac4]) rfl rfl) ?_
 intro a hA
 refine seq_do hA rfl rfl rfl (d_loadS hS ExP_isS_26 rfl 0 rfl (cs := [.bool (rb x.num), .slice u1 ((words x.num.natAbs).length) uc1, .slice u2 ((words x.den).length) uc2, .bool (rb y.num), .slice u3 ((words y.num.natAbs).length) uc3, .slice u4 ((words y.den).length) uc4]) rfl rfl) ?_
 intro a hA
 refine seq_new (vs := [.bool (rb u.num), .slice a1 ((words u.num.natAbs).length) ac1, .slice a2 ((words u.den).length) ac2, .bool (rb v.num), .slice a3 ((words v.num.natAbs).length) ac3, .slice a4 ((words v.den).length) ac4, .bool (rb x.num), .slice u1 ((words x.num.natAbs).length) uc1, .slice u2 ((words x.den).length) uc2, .bool (rb y.num), .slice u3 ((words y.num.natAbs).length) uc3, .slice u4 ((words y.den).length) uc4]) (t := 26) hA hS rfl rfl rfl (fun g => .slice (some ⟨g, 0, none⟩) 2 2) (d_buildSlice rfl (by kernel_rfl)) rfl ?_
 intro g8 w9 hS a hA
 refine seq_call hA rfl rfl rfl (enters_func  rfl rfl (fun w => by kernel_rfl)) (wantR2_any (show Nm _ (Q6.rat u v) a1 ac1 a2 ac2 a3 ac3 a4 ac4 from ⟨⟨(hS.rd 7 rfl), ha.s1.nil, ha.s1.cap⟩, ⟨(hS.rd 6 rfl), ha.s2.nil, ha.s2.cap⟩, ⟨(hS.rd 5 rfl), ha.s3.nil, ha.s3.cap⟩, ⟨(hS.rd 4 rfl), ha.s4.nil, ha.s4.cap⟩⟩) (lenQ_rat hu hv) (show Nm _ (Q6.rat x y) u1 uc1 u2 uc2 u3 uc3 u4 uc4 from ⟨⟨(hS.rd 3 rfl), hb.s1.nil, hb.s1.cap⟩, ⟨(hS.rd 2 rfl), hb.s2.nil, hb.s2.cap⟩, ⟨(hS.rd 1 rfl), hb.s3.nil, hb.s3.cap⟩, ⟨(hS.rd 0 rfl), hb.s4.nil, hb.s4.cap⟩⟩) (lenQ_rat hx hy) (hS.blk 0 rfl) hw) ?_
 rintro _ w11 ⟨rfl, hb10⟩
 replace hS := hS.call hb10
 refine ⟨_, rfl, ?_⟩
 intro a hA
 refine seq_do hA rfl rfl rfl (d_assign rfl) ?_
 intro a hA
 refine seq_end ?_
 refine hK7 _ _ ?_
 refine wp_seq_k (fun K12 hK12 => ?_)
 refine wp_region_lit ?_
 refine seq_do hA rfl rfl rfl (d_move rfl) ?_
 intro a hA
 refine seq_do (v := .bool false) hA rfl rfl rfl (d_bin rfl rfl (fun w => by kernel_rfl)) ?_
 intro a hA
 refine seq_end ?_
 refine hK12 _ _ ?_
 refine wp_cond_false (hA.ev rfl) ?_
 refine wp_skip ?_
 refine hK6 _ _ ?_
 refine wp_seq_k (fun K13 hK13 => ?_)
 have hJ58 : ∀ a w1, (∃ (J32g : Nat) (J33g : Nat) (J34 : Option Addr) (J35 : Nat) (J36 : Option Addr) (J37 : Nat) (J38 : Option Addr) (J39 : Nat) (J40 : Option Addr) (J41 : Nat) (J42 : Option Addr) (J43 : Nat) (J44 : Option Addr) (J45 : Nat), Sl a 31 [(0, .agg #[.bool (rb u.num), .slice a1 ((words u.num.natAbs).length) ac1, .slice a2 ((words u.den).length) ac2, .bool (rb v.num), .slice a3 ((words v.num.natAbs).length) ac3, .slice a4 ((words v.den).length) ac4]), (1, .agg #[.bool (rb x.num), .slice u1 ((words x.num.natAbs).length) uc1, .slice u2 ((words x.den).length) uc2, .bool (rb y.num), .slice u3 ((words y.num.natAbs).length) uc3, .slice u4 ((words y.den).length) uc4]), (2, .pointer (some ⟨g2, 0, none⟩)), (3, .pointer (some ⟨g4, 0, none⟩)), (4, .int .i64 0), (5, .int .i64 0), (6, .int .i64 0), (7, .pointer (some ⟨J32g, 0, none⟩)), (8, .pointer (some ⟨J33g, 0, none⟩)), (9, .agg #[.bool (rb u.num), .slice a1 ((words u.num.natAbs).length) ac1, .slice a2 ((words u.den).length) ac2, .bool (rb v.num), .slice a3 ((words v.num.natAbs).length) ac3, .slice a4 ((words v.den).length) ac4]), (10, .agg #[.bool (rb x.num), .slice u1 ((words x.num.natAbs).length) uc1, .slice u2 ((words x.den).length) uc2, .bool (rb y.num), .slice u3 ((words y.num.natAbs).length) uc3, .slice u4 ((words y.den).length) uc4]), (11, .slice (some ⟨g8, 0, none⟩) 2 2), (12, .int .i64 0), (13, .int .i64 0), (14, .bool false)] ∧ St w w1 [(J33g, [.bool ((rb (spX x y))), .slice J40 ((words (spX x y).natAbs).length) J41, .bool ((rb (spY x y))), .slice J42 ((words (spY x y).natAbs).length) J43, .slice J44 ((words (spD x y)).length) J45]), (J32g, [.bool ((rb (spX u v))), .slice J34 ((words (spX u v).natAbs).length) J35, .bool ((rb (spY u v))), .slice J36 ((words (spY u v).natAbs).length) J37, .slice J38 ((words (spD u v)).length) J39]), (g8, [.bool (rb u.num), .slice a1 ((words u.num.natAbs).length) ac1, .slice a2 ((words u.den).length) ac2, .bool (rb v.num), .slice a3 ((words v.num.natAbs).length) ac3, .slice a4 ((words v.den).length) ac4, .bool (rb x.num), .slice u1 ((words x.num.natAbs).length) uc1, .slice u2 ((words x.den).length) uc2, .bool (rb y.num), .slice u3 ((words y.num.natAbs).length) uc3, .slice u4 ((words y.den).length) uc4]), (g4, [.bool (rb x.num), .slice u1 ((words x.num.natAbs).length) uc1, .slice u2 ((words x.den).length) uc2, .bool (rb y.num), .slice u3 ((words y.num.natAbs).length) uc3, .slice u4 ((words y.den).length) uc4]), (g2, [.bool (rb u.num), .slice a1 ((words u.num.natAbs).length) ac1, .slice a2 ((words u.den).length) ac2, .bool (rb v.num), .slice a3 ((words v.num.natAbs).length) ac3, .slice a4 ((words v.den).length) ac4])] [(J44, words (spD x y)), (J42, words (spY x y).natAbs), (J40, words (spX x y).natAbs), (J38, words (spD u v)), (J36, words (spY u v).natAbs), (J34, words (spX u v).natAbs), (u4, words y.den), (u3, words y.num.natAbs), (u2, words x.den), (u1, words x.num.natAbs), (a4, words v.den), (a3, words v.num.natAbs), (a2, words u.den), (a1, words u.num.natAbs)] [] ∧ (J44 = none → J45 = 0) ∧ (words (spD x y) : List Nat).length ≤ J45 ∧ (J42 = none → J43 = 0) ∧ (words (spY x y).natAbs : List Nat).length ≤ J43 ∧ (J40 = none → J41 = 0) ∧ (words (spX x y).natAbs : List Nat).length ≤ J41 ∧ (J38 = none → J39 = 0) ∧ (words (spD u v) : List Nat).length ≤ J39 ∧ (J36 = none → J37 = 0) ∧ (words (spY u v).natAbs : List Nat).length ≤ J37 ∧ (J34 = none → J35 = 0) ∧ (words (spX u v).natAbs : List Nat).length ≤ J35) → K13 a w1 := by
   clear hA hS
   rintro a w59 ⟨J32g, J33g, J34, J35, J36, J37, J38, J39, J40, J41, J42, J43, J44, J45, hA, hS, hn46, hc47, hn48, hc49, hn50, hc51, hn52, hc53, hn54, hc55, hn56, hc57⟩
   refine hK13 _ _ ?_
   refine wp_seq_k (fun K60 hK60 => ?_)
   refine wp_draw (S := fun w1 => St w w1 [(J33g, [.bool ((rb (spX x y))), .slice J40 ((words (spX x y).natAbs).length) J41, .bool ((rb (spY x y))), .slice J42 ((words (spY x y).natAbs).length) J43, .slice J44 ((words (spD x y)).length) J45]), (J32g, [.bool ((rb (spX u v))), .slice J34 ((words (spX u v).natAbs).length) J35, .bool ((rb (spY u v))), .slice J36 ((words (spY u v).natAbs).length) J37, .slice J38 ((words (spD u v)).length) J39]), (g8, [.bool (rb u.num), .slice a1 ((words u.num.natAbs).length) ac1, .slice a2 ((words u.den).length) ac2, .bool (rb v.num), .slice a3 ((words v.num.natAbs).length) ac3, .slice a4 ((words v.den).length) ac4, .bool (rb x.num), .slice u1 ((words x.num.natAbs).length) uc1, .slice u2 ((words x.den).length) uc2, .bool (rb y.num), .slice u3 ((words y.num.natAbs).length) uc3, .slice u4 ((words y.den).length) uc4]), (g4, [.bool (rb x.num), .slice u1 ((words x.num.natAbs).length) uc1, .slice u2 ((words x.den).length) uc2, .bool (rb y.num), .slice u3 ((words y.num.natAbs).length) uc3, .slice u4 ((words y.den).length) uc4]), (g2, [.bool (rb u.num), .slice a1 ((words u.num.natAbs).length) ac1, .slice a2 ((words u.den).length) ac2, .bool (rb v.num), .slice a3 ((words v.num.natAbs).length) ac3, .slice a4 ((words v.den).length) ac4])] [(J44, words (spD x y)), (J42, words (spY x y).natAbs), (J40, words (spX x y).natAbs), (J38, words (spD u v)), (J36, words (spY u v).natAbs), (J34, words (spX u v).natAbs), (u4, words y.den), (u3, words y.num.natAbs), (u2, words x.den), (u1, words x.num.natAbs), (a4, words v.den), (a3, words v.num.natAbs), (a2, words u.den), (a1, words u.num.natAbs)] []) (by kernel_rfl) ?_
   replace hS := hS.drew
   refine any_tk (v := .pointer (some ⟨J32g, 0, none⟩)) hA 0 rfl rfl rfl rfl hP hS (fun w1 hS => d_field ExP_fld_55_0 rfl rfl) ?_
   intro a hA
   refine any_tk hA 1 rfl rfl rfl rfl hP hS (fun w1 hS => d_loadS hS ExP_isS_53 rfl 1 rfl (cs := [.bool ((rb (spX u v))), .slice J34 ((words (spX u v).natAbs).length) J35]) rfl rfl) ?_
   intro a hA
   refine any_tk (v := .pointer (some ⟨J33g, 4, none⟩)) hA 2 rfl rfl rfl rfl hP hS (fun w1 hS => d_field ExP_fld_55_2 rfl rfl) ?_
   intro a hA
   refine any_tk hA 3 rfl rfl rfl rfl hP hS (fun w1 hS => d_load1 hS ExP_is1_22 rfl 0 rfl rfl) ?_
   intro a hA
   refine any_tk (v := .pointer (some ⟨J33g, 0, none⟩)) hA 5 rfl rfl rfl rfl hP hS (fun w1 hS => d_field ExP_fld_55_0 rfl rfl) ?_
   intro a hA
   refine any_tk hA 6 rfl rfl rfl rfl hP hS (fun w1 hS => d_loadS hS ExP_isS_53 rfl 0 rfl (cs := [.bool ((rb (spX x y))), .slice J40 ((words (spX x y).natAbs).length) J41]) rfl rfl) ?_
   intro a hA
   refine any_tk (v := .pointer (some ⟨J32g, 4, none⟩)) hA 7 rfl rfl rfl rfl hP hS (fun w1 hS => d_field ExP_fld_55_2 rfl rfl) ?_
   intro a hA
   refine any_tk hA 8 rfl rfl rfl rfl hP hS (fun w1 hS => d_load1 hS ExP_is1_22 rfl 1 rfl rfl) ?_
   intro a hA
   refine any_one (by kernel_rfl) (op_call hA 4 rfl rfl rfl rfl (enters_func  rfl rfl (fun w => by kernel_rfl)) (zscaled_any ⟨(hS.rd 5 rfl), hn56, hc57⟩ ⟨(hS.rd 0 rfl), hn46, hc47⟩ (by omega) (by omega)) ?_)
   rintro _ w65 ⟨zo61, zc62, rfl, hs63, hb64⟩
   replace hS := hS.call hb64
   replace hS := hS.addR hs63.rd
   refine ⟨_, rfl, (hS.partD (.refl _) 1 rfl (.refl _)), ?_⟩
   intro a hA
   refine any_one (by kernel_rfl) (op_call hA 9 rfl rfl rfl rfl (enters_func  rfl rfl (fun w => by kernel_rfl)) (zscaled_any ⟨(hS.rd 3 rfl), hn50, hc51⟩ ⟨(hS.rd 4 rfl), hn52, hc53⟩ (by omega) (by omega)) ?_)
   rintro _ w70 ⟨zo66, zc67, rfl, hs68, hb69⟩
   replace hS := hS.call hb69
   replace hS := hS.addR hs68.rd
   refine ⟨_, rfl, (hS.partD (.refl _) 2 rfl (.refl _)), ?_⟩
   intro a hA
   refine any_one (by kernel_rfl) (op_call hA 10 rfl rfl rfl rfl (enters_func  rfl rfl (fun w => by kernel_rfl)) (zorder_any ⟨(hS.rd 1 rfl), hs63.nil, hs63.cap⟩ ⟨(hS.rd 0 rfl), hs68.nil, hs68.cap⟩ (by omega) (by omega)) ?_)
   rintro _ w72 ⟨rfl, hb71⟩
   replace hS := hS.call hb71
   refine ⟨_, rfl, (hS.partD (.refl _) 2 rfl (.refl _)), ?_⟩
   intro a hA
   refine any_tk hA 11 rfl rfl rfl rfl hP (hS.partD (.refl _) 2 rfl (.refl _)) (fun w1 hS => d_assign rfl) ?_
   intro a hA
   refine any_tk hA 12 rfl rfl rfl rfl hP (hS.partD (.refl _) 2 rfl (.refl _)) (fun w1 hS => d_assign rfl) ?_
   intro a hA
   refine any_end (by kernel_rfl) ?_
   refine hK60 _ _ ?_
   refine wp_ret ?_
   refine hret _ _ ?_
   refine ends (v := .tuple #[.int .i64 (cmpZ ((spX u v) * ((spD x y : Nat) : Int)) ((spX x y) * ((spD u v : Nat) : Int))), .int .i64 0]) hA rfl (.cons (res_tmp rfl) (.cons (res_tmp rfl) .nil)) rfl ?_
   exact ⟨by rw [← cmp_mk (spD_ne u v) (spD_ne x y) (spX_mk u v) (spX_mk x y)], hS.bel⟩
 refine wp_draw (S := fun w1 => St w w1 [(g8, [.bool (rb u.num), .slice a1 ((words u.num.natAbs).length) ac1, .slice a2 ((words u.den).length) ac2, .bool (rb v.num), .slice a3 ((words v.num.natAbs).length) ac3, .slice a4 ((words v.den).length) ac4, .bool (rb x.num), .slice u1 ((words x.num.natAbs).length) uc1, .slice u2 ((words x.den).length) uc2, .bool (rb y.num), .slice u3 ((words y.num.natAbs).length) uc3, .slice u4 ((words y.den).length) uc4]), (g4, [.bool (rb x.num), .slice u1 ((words x.num.natAbs).length) uc1, .slice u2 ((words x.den).length) uc2, .bool (rb y.num), .slice u3 ((words y.num.natAbs).length) uc3, .slice u4 ((words y.den).length) uc4]), (g2, [.bool (rb u.num), .slice a1 ((words u.num.natAbs).length) ac1, .slice a2 ((words u.den).length) ac2, .bool (rb v.num), .slice a3 ((words v.num.natAbs).length) ac3, .slice a4 ((words v.den).length) ac4])] [(u4, words y.den), (u3, words y.num.natAbs), (u2, words x.den), (u1, words x.num.natAbs), (a4, words v.den), (a3, words v.num.natAbs), (a2, words u.den), (a1, words u.num.natAbs)] []) (by kernel_rfl) ?_
 replace hS := hS.drew
 refine any_tk hA 0 rfl rfl rfl rfl hP hS (fun w1 hS => d_loadS hS ExP_isS_26 rfl 2 rfl (cs := [.bool (rb u.num), .slice a1 ((words u.num.natAbs).length) ac1, .slice a2 ((words u.den).length) ac2, .bool (rb v.num), .slice a3 ((words v.num.natAbs).length) ac3, .slice a4 ((words v.den).length) ac4]) rfl rfl) ?_
 intro a hA
 refine any_tk hA 2 rfl rfl rfl rfl hP hS (fun w1 hS => d_loadS hS ExP_isS_26 rfl 1 rfl (cs := [.bool (rb x.num), .slice u1 ((words x.num.natAbs).length) uc1, .slice u2 ((words x.den).length) uc2, .bool (rb y.num), .slice u3 ((words y.num.natAbs).length) uc3, .slice u4 ((words y.den).length) uc4]) rfl rfl) ?_
 intro a hA
 refine any_many (rs := [1, 4, 5]) (by kernel_rfl) (by simp) ⟨?_, ?_, ?_, trivial⟩
 · refine op_call hA 1 rfl rfl rfl rfl (enters_func  rfl rfl (fun w => by kernel_rfl)) (zspread_any (show Nm _ (Q6.rat u v) a1 ac1 a2 ac2 a3 ac3 a4 ac4 from ⟨⟨(hS.rd 7 rfl), ha.s1.nil, ha.s1.cap⟩, ⟨(hS.rd 6 rfl), ha.s2.nil, ha.s2.cap⟩, ⟨(hS.rd 5 rfl), ha.s3.nil, ha.s3.cap⟩, ⟨(hS.rd 4 rfl), ha.s4.nil, ha.s4.cap⟩⟩) hu hv) ?_
   rintro _ w78 ⟨p73_1, p73_c1, p73_2, p73_c2, p73_3, p73_c3, rfl, hs74, hs75, hs76, hb77⟩
   replace hS := hS.call hb77
   replace hS := hS.addR hs74.rd
   replace hS := hS.addR hs75.rd
   replace hS := hS.addR hs76.rd
   refine ⟨_, rfl, (hS.partD (.refl _) 3 rfl (.refl _)), ?_⟩
   intro a hA
   refine any_many (rs := [3, 4, 5]) (by kernel_rfl) (by simp) ⟨?_, ?_, ?_, trivial⟩
   · refine op_call hA 3 rfl rfl rfl rfl (enters_func  rfl rfl (fun w => by kernel_rfl)) (zspread_any (show Nm _ (Q6.rat x y) u1 uc1 u2 uc2 u3 uc3 u4 uc4 from ⟨⟨(hS.rd 6 rfl), hb.s1.nil, hb.s1.cap⟩, ⟨(hS.rd 5 rfl), hb.s2.nil, hb.s2.cap⟩, ⟨(hS.rd 4 rfl), hb.s3.nil, hb.s3.cap⟩, ⟨(hS.rd 3 rfl), hb.s4.nil, hb.s4.cap⟩⟩) hx hy) ?_
     rintro _ w84 ⟨p79_1, p79_c1, p79_2, p79_c2, p79_3, p79_c3, rfl, hs80, hs81, hs82, hb83⟩
     replace hS := hS.call hb83
     replace hS := hS.addR hs80.rd
     replace hS := hS.addR hs81.rd
     replace hS := hS.addR hs82.rd
     refine ⟨_, rfl, (hS.partD (.refl _) 6 rfl (.refl _)), ?_⟩
     intro a hA
     refine any_many (rs := [4, 5]) (by kernel_rfl) (by simp) ⟨?_, ?_, trivial⟩
     · refine op_new (vs := [.bool false, .slice none 0 0, .bool false, .slice none 0 0, .slice none 0 0]) (t := 55) hA hS 4 rfl rfl rfl rfl (fun g => .pointer (some ⟨g, 0, none⟩)) (d_alloc (z := .agg #[.bool false, .slice none 0 0, .bool false, .slice none 0 0, .slice none 0 0]) (by kernel_rfl) rfl) rfl ?_
       intro g85 w86 hS
       refine ⟨(hS.partD (.cons _ (.cons_cons _ (.cons_cons _ (.cons_cons _ .slnil)))) 6 rfl (.refl _)), ?_⟩
       intro a hA
       refine any_one (by kernel_rfl) (op_new (vs := [.bool false, .slice none 0 0, .bool false, .slice none 0 0, .slice none 0 0]) (t := 55) hA hS 5 rfl rfl rfl rfl (fun g => .pointer (some ⟨g, 0, none⟩)) (d_alloc (z := .agg #[.bool false, .slice none 0 0, .bool false, .slice none 0 0, .slice none 0 0]) (by kernel_rfl) rfl) rfl ?_)
       intro g87 w88 hS
       refine ⟨(hS.partD (.cons _ (.cons _ (.cons_cons _ (.cons_cons _ (.cons_cons _ .slnil))))) 6 rfl (.refl _)), ?_⟩
       intro a hA
       refine any_one (by kernel_rfl) (op_store (us := [.bool ((rb (spX u v))), .slice p73_1 ((words (spX u v).natAbs).length) p73_c1, .bool ((rb (spY u v))), .slice p73_2 ((words (spY u v).natAbs).length) p73_c2, .slice p73_3 ((words (spD u v)).length) p73_c3]) hA hS 6 rfl rfl rfl (sets_store (cs := [.bool ((rb (spX u v))), .slice p73_1 ((words (spX u v).natAbs).length) p73_c1, .bool ((rb (spY u v))), .slice p73_2 ((words (spY u v).natAbs).length) p73_c2, .slice p73_3 ((words (spD u v)).length) p73_c3]) rfl rfl rfl (by kernel_rfl) hS 1 rfl rfl rfl) 1 rfl rfl rfl rfl ?_)
       intro w89 hS
       refine ⟨(hS.partD (.cons _ (.cons _ (.cons_cons _ (.cons_cons _ (.cons_cons _ .slnil))))) 6 rfl (.refl _)), ?_⟩
       refine any_one (by kernel_rfl) (op_store (us := [.bool ((rb (spX x y))), .slice p79_1 ((words (spX x y).natAbs).length) p79_c1, .bool ((rb (spY x y))), .slice p79_2 ((words (spY x y).natAbs).length) p79_c2, .slice p79_3 ((words (spD x y)).length) p79_c3]) hA hS 7 rfl rfl rfl (sets_store (cs := [.bool ((rb (spX x y))), .slice p79_1 ((words (spX x y).natAbs).length) p79_c1, .bool ((rb (spY x y))), .slice p79_2 ((words (spY x y).natAbs).length) p79_c2, .slice p79_3 ((words (spD x y)).length) p79_c3]) rfl rfl rfl (by kernel_rfl) hS 0 rfl rfl rfl) 0 rfl rfl rfl rfl ?_)
       intro w90 hS
       refine ⟨(hS.partD (.cons _ (.cons _ (.cons_cons _ (.cons_cons _ (.cons_cons _ .slnil))))) 6 rfl (.refl _)), ?_⟩
       refine any_end (by kernel_rfl) ?_
       refine hJ58 _ _ ⟨g85, g87, p73_1, p73_c1, p73_2, p73_c2, p73_3, p73_c3, p79_1, p79_c1, p79_2, p79_c2, p79_3, p79_c3, hA.keep _ ⟨rfl, rfl, rfl, rfl, rfl, rfl, rfl, rfl, rfl, rfl, rfl, rfl, rfl, rfl, rfl, trivial⟩, ((hS.pickR [(p79_3, words (spD x y)), (p79_2, words (spY x y).natAbs), (p79_1, words (spX x y).natAbs), (p73_3, words (spD u v)), (p73_2, words (spY u v).natAbs), (p73_1, words (spX u v).natAbs), (u4, words y.den), (u3, words y.num.natAbs), (u2, words x.den), (u1, words x.num.natAbs), (a4, words v.den), (a3, words v.num.natAbs), (a2, words u.den), (a1, words u.num.natAbs)] ⟨⟨0, rfl⟩, ⟨⟨1, rfl⟩, ⟨⟨2, rfl⟩, ⟨⟨3, rfl⟩, ⟨⟨4, rfl⟩, ⟨⟨5, rfl⟩, ⟨⟨6, rfl⟩, ⟨⟨7, rfl⟩, ⟨⟨8, rfl⟩, ⟨⟨9, rfl⟩, ⟨⟨10, rfl⟩, ⟨⟨11, rfl⟩, ⟨⟨12, rfl⟩, ⟨⟨13, rfl⟩, trivial⟩⟩⟩⟩⟩⟩⟩⟩⟩⟩⟩⟩⟩⟩).pickL [(g87, [.bool ((rb (spX x y))), .slice p79_1 ((words (spX x y).natAbs).length) p79_c1, .bool ((rb (spY x y))), .slice p79_2 ((words (spY x y).natAbs).length) p79_c2, .slice p79_3 ((words (spD x y)).length) p79_c3]), (g85, [.bool ((rb (spX u v))), .slice p73_1 ((words (spX u v).natAbs).length) p73_c1, .bool ((rb (spY u v))), .slice p73_2 ((words (spY u v).natAbs).length) p73_c2, .slice p73_3 ((words (spD u v)).length) p73_c3]), (g8, [.bool (rb u.num), .slice a1 ((words u.num.natAbs).length) ac1, .slice a2 ((words u.den).length) ac2, .bool (rb v.num), .slice a3 ((words v.num.natAbs).length) ac3, .slice a4 ((words v.den).length) ac4, .bool (rb x.num), .slice u1 ((words x.num.natAbs).length) uc1, .slice u2 ((words x.den).length) uc2, .bool (rb y.num), .slice u3 ((words y.num.natAbs).length) uc3, .slice u4 ((words y.den).length) uc4]), (g4, [.bool (rb x.num), .slice u1 ((words x.num.natAbs).length) uc1, .slice u2 ((words x.den).length) uc2, .bool (rb y.num), .slice u3 ((words y.num.natAbs).length) uc3, .slice u4 ((words y.den).length) uc4]), (g2, [.bool (rb u.num), .slice a1 ((words u.num.natAbs).length) ac1, .slice a2 ((words u.den).length) ac2, .bool (rb v.num), .slice a3 ((words v.num.natAbs).length) ac3, .slice a4 ((words v.den).length) ac4])] [0, 1, 2, 3, 4] rfl (by decide)), hs82.nil, hs82.cap, hs81.nil, hs81.cap, hs80.nil, hs80.cap, hs76.nil, hs76.cap, hs75.nil, hs75.cap, hs74.nil, hs74.cap⟩
     · refine op_new (vs := [.bool false, .slice none 0 0, .bool false, .slice none 0 0, .slice none 0 0]) (t := 55) hA hS 5 rfl rfl rfl rfl (fun g => .pointer (some ⟨g, 0, none⟩)) (d_alloc (z := .agg #[.bool false, .slice none 0 0, .bool false, .slice none 0 0, .slice none 0 0]) (by kernel_rfl) rfl) rfl ?_
       intro g91 w92 hS
       refine ⟨(hS.partD (.cons _ (.cons_cons _ (.cons_cons _ (.cons_cons _ .slnil)))) 6 rfl (.refl _)), ?_⟩
       intro a hA
       refine any_one (by kernel_rfl) (op_new (vs := [.bool false, .slice none 0 0, .bool false, .slice none 0 0, .slice none 0 0]) (t := 55) hA hS 4 rfl rfl rfl rfl (fun g => .pointer (some ⟨g, 0, none⟩)) (d_alloc (z := .agg #[.bool false, .slice none 0 0, .bool false, .slice none 0 0, .slice none 0 0]) (by kernel_rfl) rfl) rfl ?_)
       intro g93 w94 hS
       refine ⟨(hS.partD (.cons _ (.cons _ (.cons_cons _ (.cons_cons _ (.cons_cons _ .slnil))))) 6 rfl (.refl _)), ?_⟩
       intro a hA
       refine any_one (by kernel_rfl) (op_store (us := [.bool ((rb (spX u v))), .slice p73_1 ((words (spX u v).natAbs).length) p73_c1, .bool ((rb (spY u v))), .slice p73_2 ((words (spY u v).natAbs).length) p73_c2, .slice p73_3 ((words (spD u v)).length) p73_c3]) hA hS 6 rfl rfl rfl (sets_store (cs := [.bool ((rb (spX u v))), .slice p73_1 ((words (spX u v).natAbs).length) p73_c1, .bool ((rb (spY u v))), .slice p73_2 ((words (spY u v).natAbs).length) p73_c2, .slice p73_3 ((words (spD u v)).length) p73_c3]) rfl rfl rfl (by kernel_rfl) hS 0 rfl rfl rfl) 0 rfl rfl rfl rfl ?_)
       intro w95 hS
       refine ⟨(hS.partD (.cons _ (.cons _ (.cons_cons _ (.cons_cons _ (.cons_cons _ .slnil))))) 6 rfl (.refl _)), ?_⟩
       refine any_one (by kernel_rfl) (op_store (us := [.bool ((rb (spX x y))), .slice p79_1 ((words (spX x y).natAbs).length) p79_c1, .bool ((rb (spY x y))), .slice p79_2 ((words (spY x y).natAbs).length) p79_c2, .slice p79_3 ((words (spD x y)).length) p79_c3]) hA hS 7 rfl rfl rfl (sets_store (cs := [.bool ((rb (spX x y))), .slice p79_1 ((words (spX x y).natAbs).length) p79_c1, .bool ((rb (spY x y))), .slice p79_2 ((words (spY x y).natAbs).length) p79_c2, .slice p79_3 ((words (spD x y)).length) p79_c3]) rfl rfl rfl (by kernel_rfl) hS 1 rfl rfl rfl) 1 rfl rfl rfl rfl ?_)
       intro w96 hS
       refine ⟨(hS.partD (.cons _ (.cons _ (.cons_cons _ (.cons_cons _ (.cons_cons _ .slnil))))) 6 rfl (.refl _)), ?_⟩
       refine any_end (by kernel_rfl) ?_
       refine hJ58 _ _ ⟨g93, g91, p73_1, p73_c1, p73_2, p73_c2, p73_3, p73_c3, p79_1, p79_c1, p79_2, p79_c2, p79_3, p79_c3, hA.keep _ ⟨rfl, rfl, rfl, rfl, rfl, rfl, rfl, rfl, rfl, rfl, rfl, rfl, rfl, rfl, rfl, trivial⟩, ((hS.pickR [(p79_3, words (spD x y)), (p79_2, words (spY x y).natAbs), (p79_1, words (spX x y).natAbs), (p73_3, words (spD u v)), (p73_2, words (spY u v).natAbs), (p73_1, words (spX u v).natAbs), (u4, words y.den), (u3, words y.num.natAbs), (u2, words x.den), (u1, words x.num.natAbs), (a4, words v.den), (a3, words v.num.natAbs), (a2, words u.den), (a1, words u.num.natAbs)] ⟨⟨0, rfl⟩, ⟨⟨1, rfl⟩, ⟨⟨2, rfl⟩, ⟨⟨3, rfl⟩, ⟨⟨4, rfl⟩, ⟨⟨5, rfl⟩, ⟨⟨6, rfl⟩, ⟨⟨7, rfl⟩, ⟨⟨8, rfl⟩, ⟨⟨9, rfl⟩, ⟨⟨10, rfl⟩, ⟨⟨11, rfl⟩, ⟨⟨12, rfl⟩, ⟨⟨13, rfl⟩, trivial⟩⟩⟩⟩⟩⟩⟩⟩⟩⟩⟩⟩⟩⟩).pickL [(g91, [.bool ((rb (spX x y))), .slice p79_1 ((words (spX x y).natAbs).length) p79_c1, .bool ((rb (spY x y))), .slice p79_2 ((words (spY x y).natAbs).length) p79_c2, .slice p79_3 ((words (spD x y)).length) p79_c3]), (g93, [.bool ((rb (spX u v))), .slice p73_1 ((words (spX u v).natAbs).length) p73_c1, .bool ((rb (spY u v))), .slice p73_2 ((words (spY u v).natAbs).length) p73_c2, .slice p73_3 ((words (spD u v)).length) p73_c3]), (g8, [.bool (rb u.num), .slice a1 ((words u.num.natAbs).length) ac1, .slice a2 ((words u.den).length) ac2, .bool (rb v.num), .slice a3 ((words v.num.natAbs).length) ac3, .slice a4 ((words v.den).length) ac4, .bool (rb x.num), .slice u1 ((words x.num.natAbs).length) uc1, .slice u2 ((words x.den).length) uc2, .bool (rb y.num), .slice u3 ((words y.num.natAbs).length) uc3, .slice u4 ((words y.den).length) uc4]), (g4, [.bool (rb x.num), .slice u1 ((words x.num.natAbs).length) uc1, .slice u2 ((words x.den).length) uc2, .bool (rb y.num), .slice u3 ((words y.num.natAbs).length) uc3, .slice u4 ((words y.den).length) uc4]), (g2, [.bool (rb u.num), .slice a1 ((words u.num.natAbs).length) ac1, .slice a2 ((words u.den).length) ac2, .bool (rb v.num), .slice a3 ((words v.num.natAbs).length) ac3, .slice a4 ((words v.den).length) ac4])] [1, 0, 2, 3, 4] rfl (by decide)), hs82.nil, hs82.cap, hs81.nil, hs81.cap, hs80.nil, hs80.cap, hs76.nil, hs76.cap, hs75.nil, hs75.cap, hs74.nil, hs74.cap⟩
   · refine op_new (vs := [.bool false, .slice none 0 0, .bool false, .slice none 0 0, .slice none 0 0]) (t := 55) hA hS 4 rfl rfl rfl rfl (fun g => .pointer (some ⟨g, 0, none⟩)) (d_alloc (z := .agg #[.bool false, .slice none 0 0, .bool false, .slice none 0 0, .slice none 0 0]) (by kernel_rfl) rfl) rfl ?_
     intro g97 w98 hS
     refine ⟨(hS.partD (.cons _ (.cons_cons _ (.cons_cons _ (.cons_cons _ .slnil)))) 3 rfl (.refl _)), ?_⟩
     intro a hA
     refine any_many (rs := [3, 5]) (by kernel_rfl) (by simp) ⟨?_, ?_, trivial⟩
     · refine op_call hA 3 rfl rfl rfl rfl (enters_func  rfl rfl (fun w => by kernel_rfl)) (zspread_any (show Nm _ (Q6.rat x y) u1 uc1 u2 uc2 u3 uc3 u4 uc4 from ⟨⟨(hS.rd 6 rfl), hb.s1.nil, hb.s1.cap⟩, ⟨(hS.rd 5 rfl), hb.s2.nil, hb.s2.cap⟩, ⟨(hS.rd 4 rfl), hb.s3.nil, hb.s3.cap⟩, ⟨(hS.rd 3 rfl), hb.s4.nil, hb.s4.cap⟩⟩) hx hy) ?_
       rintro _ w104 ⟨p99_1, p99_c1, p99_2, p99_c2, p99_3, p99_c3, rfl, hs100, hs101, hs102, hb103⟩
       replace hS := hS.call hb103
       replace hS := hS.addR hs100.rd
       replace hS := hS.addR hs101.rd
       replace hS := hS.addR hs102.rd
       refine ⟨_, rfl, (hS.partD (.cons _ (.cons_cons _ (.cons_cons _ (.cons_cons _ .slnil)))) 6 rfl (.refl _)), ?_⟩
       intro a hA
       refine any_one (by kernel_rfl) (op_new (vs := [.bool false, .slice none 0 0, .bool false, .slice none 0 0, .slice none 0 0]) (t := 55) hA hS 5 rfl rfl rfl rfl (fun g => .pointer (some ⟨g, 0, none⟩)) (d_alloc (z := .agg #[.bool false, .slice none 0 0, .bool false, .slice none 0 0, .slice none 0 0]) (by kernel_rfl) rfl) rfl ?_)
       intro g105 w106 hS
       refine ⟨(hS.partD (.cons _ (.cons _ (.cons_cons _ (.cons_cons _ (.cons_cons _ .slnil))))) 6 rfl (.refl _)), ?_⟩
       intro a hA
       refine any_one (by kernel_rfl) (op_store (us := [.bool ((rb (spX u v))), .slice p73_1 ((words (spX u v).natAbs).length) p73_c1, .bool ((rb (spY u v))), .slice p73_2 ((words (spY u v).natAbs).length) p73_c2, .slice p73_3 ((words (spD u v)).length) p73_c3]) hA hS 6 rfl rfl rfl (sets_store (cs := [.bool ((rb (spX u v))), .slice p73_1 ((words (spX u v).natAbs).length) p73_c1, .bool ((rb (spY u v))), .slice p73_2 ((words (spY u v).natAbs).length) p73_c2, .slice p73_3 ((words (spD u v)).length) p73_c3]) rfl rfl rfl (by kernel_rfl) hS 1 rfl rfl rfl) 1 rfl rfl rfl rfl ?_)
       intro w107 hS
       refine ⟨(hS.partD (.cons _ (.cons _ (.cons_cons _ (.cons_cons _ (.cons_cons _ .slnil))))) 6 rfl (.refl _)), ?_⟩
       refine any_one (by kernel_rfl) (op_store (us := [.bool ((rb (spX x y))), .slice p99_1 ((words (spX x y).natAbs).length) p99_c1, .bool ((rb (spY x y))), .slice p99_2 ((words (spY x y).natAbs).length) p99_c2, .slice p99_3 ((words (spD x y)).length) p99_c3]) hA hS 7 rfl rfl rfl (sets_store (cs := [.bool ((rb (spX x y))), .slice p99_1 ((words (spX x y).natAbs).length) p99_c1, .bool ((rb (spY x y))), .slice p99_2 ((words (spY x y).natAbs).length) p99_c2, .slice p99_3 ((words (spD x y)).length) p99_c3]) rfl rfl rfl (by kernel_rfl) hS 0 rfl rfl rfl) 0 rfl rfl rfl rfl ?_)
       intro w108 hS
       refine ⟨(hS.partD (.cons _ (.cons _ (.cons_cons _ (.cons_cons _ (.cons_cons _ .slnil))))) 6 rfl (.refl _)), ?_⟩
       refine any_end (by kernel_rfl) ?_
       refine hJ58 _ _ ⟨g97, g105, p73_1, p73_c1, p73_2, p73_c2, p73_3, p73_c3, p99_1, p99_c1, p99_2, p99_c2, p99_3, p99_c3, hA.keep _ ⟨rfl, rfl, rfl, rfl, rfl, rfl, rfl, rfl, rfl, rfl, rfl, rfl, rfl, rfl, rfl, trivial⟩, ((hS.pickR [(p99_3, words (spD x y)), (p99_2, words (spY x y).natAbs), (p99_1, words (spX x y).natAbs), (p73_3, words (spD u v)), (p73_2, words (spY u v).natAbs), (p73_1, words (spX u v).natAbs), (u4, words y.den), (u3, words y.num.natAbs), (u2, words x.den), (u1, words x.num.natAbs), (a4, words v.den), (a3, words v.num.natAbs), (a2, words u.den), (a1, words u.num.natAbs)] ⟨⟨0, rfl⟩, ⟨⟨1, rfl⟩, ⟨⟨2, rfl⟩, ⟨⟨3, rfl⟩, ⟨⟨4, rfl⟩, ⟨⟨5, rfl⟩, ⟨⟨6, rfl⟩, ⟨⟨7, rfl⟩, ⟨⟨8, rfl⟩, ⟨⟨9, rfl⟩, ⟨⟨10, rfl⟩, ⟨⟨11, rfl⟩, ⟨⟨12, rfl⟩, ⟨⟨13, rfl⟩, trivial⟩⟩⟩⟩⟩⟩⟩⟩⟩⟩⟩⟩⟩⟩).pickL [(g105, [.bool ((rb (spX x y))), .slice p99_1 ((words (spX x y).natAbs).length) p99_c1, .bool ((rb (spY x y))), .slice p99_2 ((words (spY x y).natAbs).length) p99_c2, .slice p99_3 ((words (spD x y)).length) p99_c3]), (g97, [.bool ((rb (spX u v))), .slice p73_1 ((words (spX u v).natAbs).length) p73_c1, .bool ((rb (spY u v))), .slice p73_2 ((words (spY u v).natAbs).length) p73_c2, .slice p73_3 ((words (spD u v)).length) p73_c3]), (g8, [.bool (rb u.num), .slice a1 ((words u.num.natAbs).length) ac1, .slice a2 ((words u.den).length) ac2, .bool (rb v.num), .slice a3 ((words v.num.natAbs).length) ac3, .slice a4 ((words v.den).length) ac4, .bool (rb x.num), .slice u1 ((words x.num.natAbs).length) uc1, .slice u2 ((words x.den).length) uc2, .bool (rb y.num), .slice u3 ((words y.num.natAbs).length) uc3, .slice u4 ((words y.den).length) uc4]), (g4, [.bool (rb x.num), .slice u1 ((words x.num.natAbs).length) uc1, .slice u2 ((words x.den).length) uc2, .bool (rb y.num), .slice u3 ((words y.num.natAbs).length) uc3, .slice u4 ((words y.den).length) uc4]), (g2, [.bool (rb u.num), .slice a1 ((words u.num.natAbs).length) ac1, .slice a2 ((words u.den).length) ac2, .bool (rb v.num), .slice a3 ((words v.num.natAbs).length) ac3, .slice a4 ((words v.den).length) ac4])] [0, 1, 2, 3, 4] rfl (by decide)), hs102.nil, hs102.cap, hs101.nil, hs101.cap, hs100.nil, hs100.cap, hs76.nil, hs76.cap, hs75.nil, hs75.cap, hs74.nil, hs74.cap⟩
     · refine op_new (vs := [.bool false, .slice none 0 0, .bool false, .slice none 0 0, .slice none 0 0]) (t := 55) hA hS 5 rfl rfl rfl rfl (fun g => .pointer (some ⟨g, 0, none⟩)) (d_alloc (z := .agg #[.bool false, .slice none 0 0, .bool false, .slice none 0 0, .slice none 0 0]) (by kernel_rfl) rfl) rfl ?_
       intro g109 w110 hS
       refine ⟨(hS.partD (.cons _ (.cons _ (.cons_cons _ (.cons_cons _ (.cons_cons _ .slnil))))) 3 rfl (.refl _)), ?_⟩
       intro a hA
       refine any_one (by kernel_rfl) (op_call hA 3 rfl rfl rfl rfl (enters_func  rfl rfl (fun w => by kernel_rfl)) (zspread_any (show Nm _ (Q6.rat x y) u1 uc1 u2 uc2 u3 uc3 u4 uc4 from ⟨⟨(hS.rd 6 rfl), hb.s1.nil, hb.s1.cap⟩, ⟨(hS.rd 5 rfl), hb.s2.nil, hb.s2.cap⟩, ⟨(hS.rd 4 rfl), hb.s3.nil, hb.s3.cap⟩, ⟨(hS.rd 3 rfl), hb.s4.nil, hb.s4.cap⟩⟩) hx hy) ?_)
       rintro _ w116 ⟨p111_1, p111_c1, p111_2, p111_c2, p111_3, p111_c3, rfl, hs112, hs113, hs114, hb115⟩
       replace hS := hS.call hb115
       replace hS := hS.addR hs112.rd
       replace hS := hS.addR hs113.rd
       replace hS := hS.addR hs114.rd
       refine ⟨_, rfl, (hS.partD (.cons _ (.cons _ (.cons_cons _ (.cons_cons _ (.cons_cons _ .slnil))))) 6 rfl (.refl _)), ?_⟩
       intro a hA
       refine any_one (by kernel_rfl) (op_store (us := [.bool ((rb (spX u v))), .slice p73_1 ((words (spX u v).natAbs).length) p73_c1, .bool ((rb (spY u v))), .slice p73_2 ((words (spY u v).natAbs).length) p73_c2, .slice p73_3 ((words (spD u v)).length) p73_c3]) hA hS 6 rfl rfl rfl (sets_store (cs := [.bool ((rb (spX u v))), .slice p73_1 ((words (spX u v).natAbs).length) p73_c1, .bool ((rb (spY u v))), .slice p73_2 ((words (spY u v).natAbs).length) p73_c2, .slice p73_3 ((words (spD u v)).length) p73_c3]) rfl rfl rfl (by kernel_rfl) hS 1 rfl rfl rfl) 1 rfl rfl rfl rfl ?_)
       intro w117 hS
       refine ⟨(hS.partD (.cons _ (.cons _ (.cons_cons _ (.cons_cons _ (.cons_cons _ .slnil))))) 6 rfl (.refl _)), ?_⟩
       refine any_one (by kernel_rfl) (op_store (us := [.bool ((rb (spX x y))), .slice p111_1 ((words (spX x y).natAbs).length) p111_c1, .bool ((rb (spY x y))), .slice p111_2 ((words (spY x y).natAbs).length) p111_c2, .slice p111_3 ((words (spD x y)).length) p111_c3]) hA hS 7 rfl rfl rfl (sets_store (cs := [.bool ((rb (spX x y))), .slice p111_1 ((words (spX x y).natAbs).length) p111_c1, .bool ((rb (spY x y))), .slice p111_2 ((words (spY x y).natAbs).length) p111_c2, .slice p111_3 ((words (spD x y)).length) p111_c3]) rfl rfl rfl (by kernel_rfl) hS 0 rfl rfl rfl) 0 rfl rfl rfl rfl ?_)
       intro w118 hS
       refine ⟨(hS.partD (.cons _ (.cons _ (.cons_cons _ (.cons_cons _ (.cons_cons _ .slnil))))) 6 rfl (.refl _)), ?_⟩
       refine any_end (by kernel_rfl) ?_
       refine hJ58 _ _ ⟨g97, g109, p73_1, p73_c1, p73_2, p73_c2, p73_3, p73_c3, p111_1, p111_c1, p111_2, p111_c2, p111_3, p111_c3, hA.keep _ ⟨rfl, rfl, rfl, rfl, rfl, rfl, rfl, rfl, rfl, rfl, rfl, rfl, rfl, rfl, rfl, trivial⟩, ((hS.pickR [(p111_3, words (spD x y)), (p111_2, words (spY x y).natAbs), (p111_1, words (spX x y).natAbs), (p73_3, words (spD u v)), (p73_2, words (spY u v).natAbs), (p73_1, words (spX u v).natAbs), (u4, words y.den), (u3, words y.num.natAbs), (u2, words x.den), (u1, words x.num.natAbs), (a4, words v.den), (a3, words v.num.natAbs), (a2, words u.den), (a1, words u.num.natAbs)] ⟨⟨0, rfl⟩, ⟨⟨1, rfl⟩, ⟨⟨2, rfl⟩, ⟨⟨3, rfl⟩, ⟨⟨4, rfl⟩, ⟨⟨5, rfl⟩, ⟨⟨6, rfl⟩, ⟨⟨7, rfl⟩, ⟨⟨8, rfl⟩, ⟨⟨9, rfl⟩, ⟨⟨10, rfl⟩, ⟨⟨11, rfl⟩, ⟨⟨12, rfl⟩, ⟨⟨13, rfl⟩, trivial⟩⟩⟩⟩⟩⟩⟩⟩⟩⟩⟩⟩⟩⟩).pickL [(g109, [.bool ((rb (spX x y))), .slice p111_1 ((words (spX x y).natAbs).length) p111_c1, .bool ((rb (spY x y))), .slice p111_2 ((words (spY x y).natAbs).length) p111_c2, .slice p111_3 ((words (spD x y)).length) p111_c3]), (g97, [.bool ((rb (spX u v))), .slice p73_1 ((words (spX u v).natAbs).length) p73_c1, .bool ((rb (spY u v))), .slice p73_2 ((words (spY u v).natAbs).length) p73_c2, .slice p73_3 ((words (spD u v)).length) p73_c3]), (g8, [.bool (rb u.num), .slice a1 ((words u.num.natAbs).length) ac1, .slice a2 ((words u.den).length) ac2, .bool (rb v.num), .slice a3 ((words v.num.natAbs).length) ac3, .slice a4 ((words v.den).length) ac4, .bool (rb x.num), .slice u1 ((words x.num.natAbs).length) uc1, .slice u2 ((words x.den).length) uc2, .bool (rb y.num), .slice u3 ((words y.num.natAbs).length) uc3, .slice u4 ((words y.den).length) uc4]), (g4, [.bool (rb x.num), .slice u1 ((words x.num.natAbs).length) uc1, .slice u2 ((words x.den).length) uc2, .bool (rb y.num), .slice u3 ((words y.num.natAbs).length) uc3, .slice u4 ((words y.den).length) uc4]), (g2, [.bool (rb u.num), .slice a1 ((words u.num.natAbs).length) ac1, .slice a2 ((words u.den).length) ac2, .bool (rb v.num), .slice a3 ((words v.num.natAbs).length) ac3, .slice a4 ((words v.den).length) ac4])] [0, 1, 2, 3, 4] rfl (by decide)), hs114.nil, hs114.cap, hs113.nil, hs113.cap, hs112.nil, hs112.cap, hs76.nil, hs76.cap, hs75.nil, hs75.cap, hs74.nil, hs74.cap⟩
   · refine op_new (vs := [.bool false, .slice none 0 0, .bool false, .slice none 0 0, .slice none 0 0]) (t := 55) hA hS 5 rfl rfl rfl rfl (fun g => .pointer (some ⟨g, 0, none⟩)) (d_alloc (z := .agg #[.bool false, .slice none 0 0, .bool false, .slice none 0 0, .slice none 0 0]) (by kernel_rfl) rfl) rfl ?_
     intro g119 w120 hS
     refine ⟨(hS.partD (.cons _ (.cons_cons _ (.cons_cons _ (.cons_cons _ .slnil)))) 3 rfl (.refl _)), ?_⟩
     intro a hA
     refine any_many (rs := [3, 4]) (by kernel_rfl) (by simp) ⟨?_, ?_, trivial⟩
     · refine op_call hA 3 rfl rfl rfl rfl (enters_func  rfl rfl (fun w => by kernel_rfl)) (zspread_any (show Nm _ (Q6.rat x y) u1 uc1 u2 uc2 u3 uc3 u4 uc4 from ⟨⟨(hS.rd 6 rfl), hb.s1.nil, hb.s1.cap⟩, ⟨(hS.rd 5 rfl), hb.s2.nil, hb.s2.cap⟩, ⟨(hS.rd 4 rfl), hb.s3.nil, hb.s3.cap⟩, ⟨(hS.rd 3 rfl), hb.s4.nil, hb.s4.cap⟩⟩) hx hy) ?_
       rintro _ w126 ⟨p121_1, p121_c1, p121_2, p121_c2, p121_3, p121_c3, rfl, hs122, hs123, hs124, hb125⟩
       replace hS := hS.call hb125
       replace hS := hS.addR hs122.rd
       replace hS := hS.addR hs123.rd
       replace hS := hS.addR hs124.rd
       refine ⟨_, rfl, (hS.partD (.cons _ (.cons_cons _ (.cons_cons _ (.cons_cons _ .slnil)))) 6 rfl (.refl _)), ?_⟩
       intro a hA
       refine any_one (by kernel_rfl) (op_new (vs := [.bool false, .slice none 0 0, .bool false, .slice none 0 0, .slice none 0 0]) (t := 55) hA hS 4 rfl rfl rfl rfl (fun g => .pointer (some ⟨g, 0, none⟩)) (d_alloc (z := .agg #[.bool false, .slice none 0 0, .bool false, .slice none 0 0, .slice none 0 0]) (by kernel_rfl) rfl) rfl ?_)
       intro g127 w128 hS
       refine ⟨(hS.partD (.cons _ (.cons _ (.cons_cons _ (.cons_cons _ (.cons_cons _ .slnil))))) 6 rfl (.refl _)), ?_⟩
       intro a hA
       refine any_one (by kernel_rfl) (op_store (us := [.bool ((rb (spX u v))), .slice p73_1 ((words (spX u v).natAbs).length) p73_c1, .bool ((rb (spY u v))), .slice p73_2 ((words (spY u v).natAbs).length) p73_c2, .slice p73_3 ((words (spD u v)).length) p73_c3]) hA hS 6 rfl rfl rfl (sets_store (cs := [.bool ((rb (spX u v))), .slice p73_1 ((words (spX u v).natAbs).length) p73_c1, .bool ((rb (spY u v))), .slice p73_2 ((words (spY u v).natAbs).length) p73_c2, .slice p73_3 ((words (spD u v)).length) p73_c3]) rfl rfl rfl (by kernel_rfl) hS 0 rfl rfl rfl) 0 rfl rfl rfl rfl ?_)
       intro w129 hS
       refine ⟨(hS.partD (.cons _ (.cons _ (.cons_cons _ (.cons_cons _ (.cons_cons _ .slnil))))) 6 rfl (.refl _)), ?_⟩
       refine any_one (by kernel_rfl) (op_store (us := [.bool ((rb (spX x y))), .slice p121_1 ((words (spX x y).natAbs).length) p121_c1, .bool ((rb (spY x y))), .slice p121_2 ((words (spY x y).natAbs).length) p121_c2, .slice p121_3 ((words (spD x y)).length) p121_c3]) hA hS 7 rfl rfl rfl (sets_store (cs := [.bool ((rb (spX x y))), .slice p121_1 ((words (spX x y).natAbs).length) p121_c1, .bool ((rb (spY x y))), .slice p121_2 ((words (spY x y).natAbs).length) p121_c2, .slice p121_3 ((words (spD x y)).length) p121_c3]) rfl rfl rfl (by kernel_rfl) hS 1 rfl rfl rfl) 1 rfl rfl rfl rfl ?_)
       intro w130 hS
       refine ⟨(hS.partD (.cons _ (.cons _ (.cons_cons _ (.cons_cons _ (.cons_cons _ .slnil))))) 6 rfl (.refl _)), ?_⟩
       refine any_end (by kernel_rfl) ?_
       refine hJ58 _ _ ⟨g127, g119, p73_1, p73_c1, p73_2, p73_c2, p73_3, p73_c3, p121_1, p121_c1, p121_2, p121_c2, p121_3, p121_c3, hA.keep _ ⟨rfl, rfl, rfl, rfl, rfl, rfl, rfl, rfl, rfl, rfl, rfl, rfl, rfl, rfl, rfl, trivial⟩, ((hS.pickR [(p121_3, words (spD x y)), (p121_2, words (spY x y).natAbs), (p121_1, words (spX x y).natAbs), (p73_3, words (spD u v)), (p73_2, words (spY u v).natAbs), (p73_1, words (spX u v).natAbs), (u4, words y.den), (u3, words y.num.natAbs), (u2, words x.den), (u1, words x.num.natAbs), (a4, words v.den), (a3, words v.num.natAbs), (a2, words u.den), (a1, words u.num.natAbs)] ⟨⟨0, rfl⟩, ⟨⟨1, rfl⟩, ⟨⟨2, rfl⟩, ⟨⟨3, rfl⟩, ⟨⟨4, rfl⟩, ⟨⟨5, rfl⟩, ⟨⟨6, rfl⟩, ⟨⟨7, rfl⟩, ⟨⟨8, rfl⟩, ⟨⟨9, rfl⟩, ⟨⟨10, rfl⟩, ⟨⟨11, rfl⟩, ⟨⟨12, rfl⟩, ⟨⟨13, rfl⟩, trivial⟩⟩⟩⟩⟩⟩⟩⟩⟩⟩⟩⟩⟩⟩).pickL [(g119, [.bool ((rb (spX x y))), .slice p121_1 ((words (spX x y).natAbs).length) p121_c1, .bool ((rb (spY x y))), .slice p121_2 ((words (spY x y).natAbs).length) p121_c2, .slice p121_3 ((words (spD x y)).length) p121_c3]), (g127, [.bool ((rb (spX u v))), .slice p73_1 ((words (spX u v).natAbs).length) p73_c1, .bool ((rb (spY u v))), .slice p73_2 ((words (spY u v).natAbs).length) p73_c2, .slice p73_3 ((words (spD u v)).length) p73_c3]), (g8, [.bool (rb u.num), .slice a1 ((words u.num.natAbs).length) ac1, .slice a2 ((words u.den).length) ac2, .bool (rb v.num), .slice a3 ((words v.num.natAbs).length) ac3, .slice a4 ((words v.den).length) ac4, .bool (rb x.num), .slice u1 ((words x.num.natAbs).length) uc1, .slice u2 ((words x.den).length) uc2, .bool (rb y.num), .slice u3 ((words y.num.natAbs).length) uc3, .slice u4 ((words y.den).length) uc4]), (g4, [.bool (rb x.num), .slice u1 ((words x.num.natAbs).length) uc1, .slice u2 ((words x.den).length) uc2, .bool (rb y.num), .slice u3 ((words y.num.natAbs).length) uc3, .slice u4 ((words y.den).length) uc4]), (g2, [.bool (rb u.num), .slice a1 ((words u.num.natAbs).length) ac1, .slice a2 ((words u.den).length) ac2, .bool (rb v.num), .slice a3 ((words v.num.natAbs).length) ac3, .slice a4 ((words v.den).length) ac4])] [1, 0, 2, 3, 4] rfl (by decide)), hs124.nil, hs124.cap, hs123.nil, hs123.cap, hs122.nil, hs122.cap, hs76.nil, hs76.cap, hs75.nil, hs75.cap, hs74.nil, hs74.cap⟩
     · refine op_new (vs := [.bool false, .slice none 0 0, .bool false, .slice none 0 0, .slice none 0 0]) (t := 55) hA hS 4 rfl rfl rfl rfl (fun g => .pointer (some ⟨g, 0, none⟩)) (d_alloc (z := .agg #[.bool false, .slice none 0 0, .bool false, .slice none 0 0, .slice none 0 0]) (by kernel_rfl) rfl) rfl ?_
       intro g131 w132 hS
       refine ⟨(hS.partD (.cons _ (.cons _ (.cons_cons _ (.cons_cons _ (.cons_cons _ .slnil))))) 3 rfl (.refl _)), ?_⟩
       intro a hA
       refine any_one (by kernel_rfl) (op_call hA 3 rfl rfl rfl rfl (enters_func  rfl rfl (fun w => by kernel_rfl)) (zspread_any (show Nm _ (Q6.rat x y) u1 uc1 u2 uc2 u3 uc3 u4 uc4 from ⟨⟨(hS.rd 6 rfl), hb.s1.nil, hb.s1.cap⟩, ⟨(hS.rd 5 rfl), hb.s2.nil, hb.s2.cap⟩, ⟨(hS.rd 4 rfl), hb.s3.nil, hb.s3.cap⟩, ⟨(hS.rd 3 rfl), hb.s4.nil, hb.s4.cap⟩⟩) hx hy) ?_)
       rintro _ w138 ⟨p133_1, p133_c1, p133_2, p133_c2, p133_3, p133_c3, rfl, hs134, hs135, hs136, hb137⟩
       replace hS := hS.call hb137
       replace hS := hS.addR hs134.rd
       replace hS := hS.addR hs135.rd
       replace hS := hS.addR hs136.rd
       refine ⟨_, rfl, (hS.partD (.cons _ (.cons _ (.cons_cons _ (.cons_cons _ (.cons_cons _ .slnil))))) 6 rfl (.refl _)), ?_⟩
       intro a hA
       refine any_one (by kernel_rfl) (op_store (us := [.bool ((rb (spX u v))), .slice p73_1 ((words (spX u v).natAbs).length) p73_c1, .bool ((rb (spY u v))), .slice p73_2 ((words (spY u v).natAbs).length) p73_c2, .slice p73_3 ((words (spD u v)).length) p73_c3]) hA hS 6 rfl rfl rfl (sets_store (cs := [.bool ((rb (spX u v))), .slice p73_1 ((words (spX u v).natAbs).length) p73_c1, .bool ((rb (spY u v))), .slice p73_2 ((words (spY u v).natAbs).length) p73_c2, .slice p73_3 ((words (spD u v)).length) p73_c3]) rfl rfl rfl (by kernel_rfl) hS 0 rfl rfl rfl) 0 rfl rfl rfl rfl ?_)
       intro w139 hS
       refine ⟨(hS.partD (.cons _ (.cons _ (.cons_cons _ (.cons_cons _ (.cons_cons _ .slnil))))) 6 rfl (.refl _)), ?_⟩
       refine any_one (by kernel_rfl) (op_store (us := [.bool ((rb (spX x y))), .slice p133_1 ((words (spX x y).natAbs).length) p133_c1, .bool ((rb (spY x y))), .slice p133_2 ((words (spY x y).natAbs).length) p133_c2, .slice p133_3 ((words (spD x y)).length) p133_c3]) hA hS 7 rfl rfl rfl (sets_store (cs := [.bool ((rb (spX x y))), .slice p133_1 ((words (spX x y).natAbs).length) p133_c1, .bool ((rb (spY x y))), .slice p133_2 ((words (spY x y).natAbs).length) p133_c2, .slice p133_3 ((words (spD x y)).length) p133_c3]) rfl rfl rfl (by kernel_rfl) hS 1 rfl rfl rfl) 1 rfl rfl rfl rfl ?_)
       intro w140 hS
       refine ⟨(hS.partD (.cons _ (.cons _ (.cons_cons _ (.cons_cons _ (.cons_cons _ .slnil))))) 6 rfl (.refl _)), ?_⟩
       refine any_end (by kernel_rfl) ?_
       refine hJ58 _ _ ⟨g131, g119, p73_1, p73_c1, p73_2, p73_c2, p73_3, p73_c3, p133_1, p133_c1, p133_2, p133_c2, p133_3, p133_c3, hA.keep _ ⟨rfl, rfl, rfl, rfl, rfl, rfl, rfl, rfl, rfl, rfl, rfl, rfl, rfl, rfl, rfl, trivial⟩, ((hS.pickR [(p133_3, words (spD x y)), (p133_2, words (spY x y).natAbs), (p133_1, words (spX x y).natAbs), (p73_3, words (spD u v)), (p73_2, words (spY u v).natAbs), (p73_1, words (spX u v).natAbs), (u4, words y.den), (u3, words y.num.natAbs), (u2, words x.den), (u1, words x.num.natAbs), (a4, words v.den), (a3, words v.num.natAbs), (a2, words u.den), (a1, words u.num.natAbs)] ⟨⟨0, rfl⟩, ⟨⟨1, rfl⟩, ⟨⟨2, rfl⟩, ⟨⟨3, rfl⟩, ⟨⟨4, rfl⟩, ⟨⟨5, rfl⟩, ⟨⟨6, rfl⟩, ⟨⟨7, rfl⟩, ⟨⟨8, rfl⟩, ⟨⟨9, rfl⟩, ⟨⟨10, rfl⟩, ⟨⟨11, rfl⟩, ⟨⟨12, rfl⟩, ⟨⟨13, rfl⟩, trivial⟩⟩⟩⟩⟩⟩⟩⟩⟩⟩⟩⟩⟩⟩).pickL [(g119, [.bool ((rb (spX x y))), .slice p133_1 ((words (spX x y).natAbs).length) p133_c1, .bool ((rb (spY x y))), .slice p133_2 ((words (spY x y).natAbs).length) p133_c2, .slice p133_3 ((words (spD x y)).length) p133_c3]), (g131, [.bool ((rb (spX u v))), .slice p73_1 ((words (spX u v).natAbs).length) p73_c1, .bool ((rb (spY u v))), .slice p73_2 ((words (spY u v).natAbs).length) p73_c2, .slice p73_3 ((words (spD u v)).length) p73_c3]), (g8, [.bool (rb u.num), .slice a1 ((words u.num.natAbs).length) ac1, .slice a2 ((words u.den).length) ac2, .bool (rb v.num), .slice a3 ((words v.num.natAbs).length) ac3, .slice a4 ((words v.den).length) ac4, .bool (rb x.num), .slice u1 ((words x.num.natAbs).length) uc1, .slice u2 ((words x.den).length) uc2, .bool (rb y.num), .slice u3 ((words y.num.natAbs).length) uc3, .slice u4 ((words y.den).length) uc4]), (g4, [.bool (rb x.num), .slice u1 ((words x.num.natAbs).length) uc1, .slice u2 ((words x.den).length) uc2, .bool (rb y.num), .slice u3 ((words y.num.natAbs).length) uc3, .slice u4 ((words y.den).length) uc4]), (g2, [.bool (rb u.num), .slice a1 ((words u.num.natAbs).length) ac1, .slice a2 ((words u.den).length) ac2, .bool (rb v.num), .slice a3 ((words v.num.natAbs).length) ac3, .slice a4 ((words v.den).length) ac4])] [1, 0, 2, 3, 4] rfl (by decide)), hs136.nil, hs136.cap, hs135.nil, hs135.cap, hs134.nil, hs134.cap, hs76.nil, hs76.cap, hs75.nil, hs75.cap, hs74.nil, hs74.cap⟩
 · refine op_new (vs := [.bool false, .slice none 0 0, .bool false, .slice none 0 0, .slice none 0 0]) (t := 55) hA hS 4 rfl rfl rfl rfl (fun g => .pointer (some ⟨g, 0, none⟩)) (d_alloc (z := .agg #[.bool false, .slice none 0 0, .bool false, .slice none 0 0, .slice none 0 0]) (by kernel_rfl) rfl) rfl ?_
   intro g141 w142 hS
   refine ⟨(hS.partD (.cons _ (.cons_cons _ (.cons_cons _ (.cons_cons _ .slnil)))) 0 rfl (.refl _)), ?_⟩
   intro a hA
   refine any_many (rs := [1, 5]) (by kernel_rfl) (by simp) ⟨?_, ?_, trivial⟩
   · refine op_call hA 1 rfl rfl rfl rfl (enters_func  rfl rfl (fun w => by kernel_rfl)) (zspread_any (show Nm _ (Q6.rat u v) a1 ac1 a2 ac2 a3 ac3 a4 ac4 from ⟨⟨(hS.rd 7 rfl), ha.s1.nil, ha.s1.cap⟩, ⟨(hS.rd 6 rfl), ha.s2.nil, ha.s2.cap⟩, ⟨(hS.rd 5 rfl), ha.s3.nil, ha.s3.cap⟩, ⟨(hS.rd 4 rfl), ha.s4.nil, ha.s4.cap⟩⟩) hu hv) ?_
     rintro _ w148 ⟨p143_1, p143_c1, p143_2, p143_c2, p143_3, p143_c3, rfl, hs144, hs145, hs146, hb147⟩
     replace hS := hS.call hb147
     replace hS := hS.addR hs144.rd
     replace hS := hS.addR hs145.rd
     replace hS := hS.addR hs146.rd
     refine ⟨_, rfl, (hS.partD (.cons _ (.cons_cons _ (.cons_cons _ (.cons_cons _ .slnil)))) 3 rfl (.refl _)), ?_⟩
     intro a hA
     refine any_many (rs := [3, 5]) (by kernel_rfl) (by simp) ⟨?_, ?_, trivial⟩
     · refine op_call hA 3 rfl rfl rfl rfl (enters_func  rfl rfl (fun w => by kernel_rfl)) (zspread_any (show Nm _ (Q6.rat x y) u1 uc1 u2 uc2 u3 uc3 u4 uc4 from ⟨⟨(hS.rd 6 rfl), hb.s1.nil, hb.s1.cap⟩, ⟨(hS.rd 5 rfl), hb.s2.nil, hb.s2.cap⟩, ⟨(hS.rd 4 rfl), hb.s3.nil, hb.s3.cap⟩, ⟨(hS.rd 3 rfl), hb.s4.nil, hb.s4.cap⟩⟩) hx hy) ?_
       rintro _ w154 ⟨p149_1, p149_c1, p149_2, p149_c2, p149_3, p149_c3, rfl, hs150, hs151, hs152, hb153⟩
       replace hS := hS.call hb153
       replace hS := hS.addR hs150.rd
       replace hS := hS.addR hs151.rd
       replace hS := hS.addR hs152.rd
       refine ⟨_, rfl, (hS.partD (.cons _ (.cons_cons _ (.cons_cons _ (.cons_cons _ .slnil)))) 6 rfl (.refl _)), ?_⟩
       intro a hA
       refine any_one (by kernel_rfl) (op_new (vs := [.bool false, .slice none 0 0, .bool false, .slice none 0 0, .slice none 0 0]) (t := 55) hA hS 5 rfl rfl rfl rfl (fun g => .pointer (some ⟨g, 0, none⟩)) (d_alloc (z := .agg #[.bool false, .slice none 0 0, .bool false, .slice none 0 0, .slice none 0 0]) (by kernel_rfl) rfl) rfl ?_)
       intro g155 w156 hS
       refine ⟨(hS.partD (.cons _ (.cons _ (.cons_cons _ (.cons_cons _ (.cons_cons _ .slnil))))) 6 rfl (.refl _)), ?_⟩
       intro a hA
       refine any_one (by kernel_rfl) (op_store (us := [.bool ((rb (spX u v))), .slice p143_1 ((words (spX u v).natAbs).length) p143_c1, .bool ((rb (spY u v))), .slice p143_2 ((words (spY u v).natAbs).length) p143_c2, .slice p143_3 ((words (spD u v)).length) p143_c3]) hA hS 6 rfl rfl rfl (sets_store (cs := [.bool ((rb (spX u v))), .slice p143_1 ((words (spX u v).natAbs).length) p143_c1, .bool ((rb (spY u v))), .slice p143_2 ((words (spY u v).natAbs).length) p143_c2, .slice p143_3 ((words (spD u v)).length) p143_c3]) rfl rfl rfl (by kernel_rfl) hS 1 rfl rfl rfl) 1 rfl rfl rfl rfl ?_)
       intro w157 hS
       refine ⟨(hS.partD (.cons _ (.cons _ (.cons_cons _ (.cons_cons _ (.cons_cons _ .slnil))))) 6 rfl (.refl _)), ?_⟩
       refine any_one (by kernel_rfl) (op_store (us := [.bool ((rb (spX x y))), .slice p149_1 ((words (spX x y).natAbs).length) p149_c1, .bool ((rb (spY x y))), .slice p149_2 ((words (spY x y).natAbs).length) p149_c2, .slice p149_3 ((words (spD x y)).length) p149_c3]) hA hS 7 rfl rfl rfl (sets_store (cs := [.bool ((rb (spX x y))), .slice p149_1 ((words (spX x y).natAbs).length) p149_c1, .bool ((rb (spY x y))), .slice p149_2 ((words (spY x y).natAbs).length) p149_c2, .slice p149_3 ((words (spD x y)).length) p149_c3]) rfl rfl rfl (by kernel_rfl) hS 0 rfl rfl rfl) 0 rfl rfl rfl rfl ?_)
       intro w158 hS
       refine ⟨(hS.partD (.cons _ (.cons _ (.cons_cons _ (.cons_cons _ (.cons_cons _ .slnil))))) 6 rfl (.refl _)), ?_⟩
       refine any_end (by kernel_rfl) ?_
       refine hJ58 _ _ ⟨g141, g155, p143_1, p143_c1, p143_2, p143_c2, p143_3, p143_c3, p149_1, p149_c1, p149_2, p149_c2, p149_3, p149_c3, hA.keep _ ⟨rfl, rfl, rfl, rfl, rfl, rfl, rfl, rfl, rfl, rfl, rfl, rfl, rfl, rfl, rfl, trivial⟩, ((hS.pickR [(p149_3, words (spD x y)), (p149_2, words (spY x y).natAbs), (p149_1, words (spX x y).natAbs), (p143_3, words (spD u v)), (p143_2, words (spY u v).natAbs), (p143_1, words (spX u v).natAbs), (u4, words y.den), (u3, words y.num.natAbs), (u2, words x.den), (u1, words x.num.natAbs), (a4, words v.den), (a3, words v.num.natAbs), (a2, words u.den), (a1, words u.num.natAbs)] ⟨⟨0, rfl⟩, ⟨⟨1, rfl⟩, ⟨⟨2, rfl⟩, ⟨⟨3, rfl⟩, ⟨⟨4, rfl⟩, ⟨⟨5, rfl⟩, ⟨⟨6, rfl⟩, ⟨⟨7, rfl⟩, ⟨⟨8, rfl⟩, ⟨⟨9, rfl⟩, ⟨⟨10, rfl⟩, ⟨⟨11, rfl⟩, ⟨⟨12, rfl⟩, ⟨⟨13, rfl⟩, trivial⟩⟩⟩⟩⟩⟩⟩⟩⟩⟩⟩⟩⟩⟩).pickL [(g155, [.bool ((rb (spX x y))), .slice p149_1 ((words (spX x y).natAbs).length) p149_c1, .bool ((rb (spY x y))), .slice p149_2 ((words (spY x y).natAbs).length) p149_c2, .slice p149_3 ((words (spD x y)).length) p149_c3]), (g141, [.bool ((rb (spX u v))), .slice p143_1 ((words (spX u v).natAbs).length) p143_c1, .bool ((rb (spY u v))), .slice p143_2 ((words (spY u v).natAbs).length) p143_c2, .slice p143_3 ((words (spD u v)).length) p143_c3]), (g8, [.bool (rb u.num), .slice a1 ((words u.num.natAbs).length) ac1, .slice a2 ((words u.den).length) ac2, .bool (rb v.num), .slice a3 ((words v.num.natAbs).length) ac3, .slice a4 ((words v.den).length) ac4, .bool (rb x.num), .slice u1 ((words x.num.natAbs).length) uc1, .slice u2 ((words x.den).length) uc2, .bool (rb y.num), .slice u3 ((words y.num.natAbs).length) uc3, .slice u4 ((words y.den).length) uc4]), (g4, [.bool (rb x.num), .slice u1 ((words x.num.natAbs).length) uc1, .slice u2 ((words x.den).length) uc2, .bool (rb y.num), .slice u3 ((words y.num.natAbs).length) uc3, .slice u4 ((words y.den).length) uc4]), (g2, [.bool (rb u.num), .slice a1 ((words u.num.natAbs).length) ac1, .slice a2 ((words u.den).length) ac2, .bool (rb v.num), .slice a3 ((words v.num.natAbs).length) ac3, .slice a4 ((words v.den).length) ac4])] [0, 1, 2, 3, 4] rfl (by decide)), hs152.nil, hs152.cap, hs151.nil, hs151.cap, hs150.nil, hs150.cap, hs146.nil, hs146.cap, hs145.nil, hs145.cap, hs144.nil, hs144.cap⟩
     · refine op_new (vs := [.bool false, .slice none 0 0, .bool false, .slice none 0 0, .slice none 0 0]) (t := 55) hA hS 5 rfl rfl rfl rfl (fun g => .pointer (some ⟨g, 0, none⟩)) (d_alloc (z := .agg #[.bool false, .slice none 0 0, .bool false, .slice none 0 0, .slice none 0 0]) (by kernel_rfl) rfl) rfl ?_
       intro g159 w160 hS
       refine ⟨(hS.partD (.cons _ (.cons _ (.cons_cons _ (.cons_cons _ (.cons_cons _ .slnil))))) 3 rfl (.refl _)), ?_⟩
       intro a hA
       refine any_one (by kernel_rfl) (op_call hA 3 rfl rfl rfl rfl (enters_func  rfl rfl (fun w => by kernel_rfl)) (zspread_any (show Nm _ (Q6.rat x y) u1 uc1 u2 uc2 u3 uc3 u4 uc4 from ⟨⟨(hS.rd 6 rfl), hb.s1.nil, hb.s1.cap⟩, ⟨(hS.rd 5 rfl), hb.s2.nil, hb.s2.cap⟩, ⟨(hS.rd 4 rfl), hb.s3.nil, hb.s3.cap⟩, ⟨(hS.rd 3 rfl), hb.s4.nil, hb.s4.cap⟩⟩) hx hy) ?_)
       rintro _ w166 ⟨p161_1, p161_c1, p161_2, p161_c2, p161_3, p161_c3, rfl, hs162, hs163, hs164, hb165⟩
       replace hS := hS.call hb165
       replace hS := hS.addR hs162.rd
       replace hS := hS.addR hs163.rd
       replace hS := hS.addR hs164.rd
       refine ⟨_, rfl, (hS.partD (.cons _ (.cons _ (.cons_cons _ (.cons_cons _ (.cons_cons _ .slnil))))) 6 rfl (.refl _)), ?_⟩
       intro a hA
       refine any_one (by kernel_rfl) (op_store (us := [.bool ((rb (spX u v))), .slice p143_1 ((words (spX u v).natAbs).length) p143_c1, .bool ((rb (spY u v))), .slice p143_2 ((words (spY u v).natAbs).length) p143_c2, .slice p143_3 ((words (spD u v)).length) p143_c3]) hA hS 6 rfl rfl rfl (sets_store (cs := [.bool ((rb (spX u v))), .slice p143_1 ((words (spX u v).natAbs).length) p143_c1, .bool ((rb (spY u v))), .slice p143_2 ((words (spY u v).natAbs).length) p143_c2, .slice p143_3 ((words (spD u v)).length) p143_c3]) rfl rfl rfl (by kernel_rfl) hS 1 rfl rfl rfl) 1 rfl rfl rfl rfl ?_)
       intro w167 hS
       refine ⟨(hS.partD (.cons _ (.cons _ (.cons_cons _ (.cons_cons _ (.cons_cons _ .slnil))))) 6 rfl (.refl _)), ?_⟩
       refine any_one (by kernel_rfl) (op_store (us := [.bool ((rb (spX x y))), .slice p161_1 ((words (spX x y).natAbs).length) p161_c1, .bool ((rb (spY x y))), .slice p161_2 ((words (spY x y).natAbs).length) p161_c2, .slice p161_3 ((words (spD x y)).length) p161_c3]) hA hS 7 rfl rfl rfl (sets_store (cs := [.bool ((rb (spX x y))), .slice p161_1 ((words (spX x y).natAbs).length) p161_c1, .bool ((rb (spY x y))), .slice p161_2 ((words (spY x y).natAbs).length) p161_c2, .slice p161_3 ((words (spD x y)).length) p161_c3]) rfl rfl rfl (by kernel_rfl) hS 0 rfl rfl rfl) 0 rfl rfl rfl rfl ?_)
       intro w168 hS
       refine ⟨(hS.partD (.cons _ (.cons _ (.cons_cons _ (.cons_cons _ (.cons_cons _ .slnil))))) 6 rfl (.refl _)), ?_⟩
       refine any_end (by kernel_rfl) ?_
       refine hJ58 _ _ ⟨g141, g159, p143_1, p143_c1, p143_2, p143_c2, p143_3, p143_c3, p161_1, p161_c1, p161_2, p161_c2, p161_3, p161_c3, hA.keep _ ⟨rfl, rfl, rfl, rfl, rfl, rfl, rfl, rfl, rfl, rfl, rfl, rfl, rfl, rfl, rfl, trivial⟩, ((hS.pickR [(p161_3, words (spD x y)), (p161_2, words (spY x y).natAbs), (p161_1, words (spX x y).natAbs), (p143_3, words (spD u v)), (p143_2, words (spY u v).natAbs), (p143_1, words (spX u v).natAbs), (u4, words y.den), (u3, words y.num.natAbs), (u2, words x.den), (u1, words x.num.natAbs), (a4, words v.den), (a3, words v.num.natAbs), (a2, words u.den), (a1, words u.num.natAbs)] ⟨⟨0, rfl⟩, ⟨⟨1, rfl⟩, ⟨⟨2, rfl⟩, ⟨⟨3, rfl⟩, ⟨⟨4, rfl⟩, ⟨⟨5, rfl⟩, ⟨⟨6, rfl⟩, ⟨⟨7, rfl⟩, ⟨⟨8, rfl⟩, ⟨⟨9, rfl⟩, ⟨⟨10, rfl⟩, ⟨⟨11, rfl⟩, ⟨⟨12, rfl⟩, ⟨⟨13, rfl⟩, trivial⟩⟩⟩⟩⟩⟩⟩⟩⟩⟩⟩⟩⟩⟩).pickL [(g159, [.bool ((rb (spX x y))), .slice p161_1 ((words (spX x y).natAbs).length) p161_c1, .bool ((rb (spY x y))), .slice p161_2 ((words (spY x y).natAbs).length) p161_c2, .slice p161_3 ((words (spD x y)).length) p161_c3]), (g141, [.bool ((rb (spX u v))), .slice p143_1 ((words (spX u v).natAbs).length) p143_c1, .bool ((rb (spY u v))), .slice p143_2 ((words (spY u v).natAbs).length) p143_c2, .slice p143_3 ((words (spD u v)).length) p143_c3]), (g8, [.bool (rb u.num), .slice a1 ((words u.num.natAbs).length) ac1, .slice a2 ((words u.den).length) ac2, .bool (rb v.num), .slice a3 ((words v.num.natAbs).length) ac3, .slice a4 ((words v.den).length) ac4, .bool (rb x.num), .slice u1 ((words x.num.natAbs).length) uc1, .slice u2 ((words x.den).length) uc2, .bool (rb y.num), .slice u3 ((words y.num.natAbs).length) uc3, .slice u4 ((words y.den).length) uc4]), (g4, [.bool (rb x.num), .slice u1 ((words x.num.natAbs).length) uc1, .slice u2 ((words x.den).length) uc2, .bool (rb y.num), .slice u3 ((words y.num.natAbs).length) uc3, .slice u4 ((words y.den).length) uc4]), (g2, [.bool (rb u.num), .slice a1 ((words u.num.natAbs).length) ac1, .slice a2 ((words u.den).length) ac2, .bool (rb v.num), .slice a3 ((words v.num.natAbs).length) ac3, .slice a4 ((words v.den).length) ac4])] [0, 1, 2, 3, 4] rfl (by decide)), hs164.nil, hs164.cap, hs163.nil, hs163.cap, hs162.nil, hs162.cap, hs146.nil, hs146.cap, hs145.nil, hs145.cap, hs144.nil, hs144.cap⟩
   · refine op_new (vs := [.bool false, .slice none 0 0, .bool false, .slice none 0 0, .slice none 0 0]) (t := 55) hA hS 5 rfl rfl rfl rfl (fun g => .pointer (some ⟨g, 0, none⟩)) (d_alloc (z := .agg #[.bool false, .slice none 0 0, .bool false, .slice none 0 0, .slice none 0 0]) (by kernel_rfl) rfl) rfl ?_
     intro g169 w170 hS
     refine ⟨(hS.partD (.cons _ (.cons _ (.cons_cons _ (.cons_cons _ (.cons_cons _ .slnil))))) 0 rfl (.refl _)), ?_⟩
     intro a hA
     refine any_one (by kernel_rfl) (op_call hA 1 rfl rfl rfl rfl (enters_func  rfl rfl (fun w => by kernel_rfl)) (zspread_any (show Nm _ (Q6.rat u v) a1 ac1 a2 ac2 a3 ac3 a4 ac4 from ⟨⟨(hS.rd 7 rfl), ha.s1.nil, ha.s1.cap⟩, ⟨(hS.rd 6 rfl), ha.s2.nil, ha.s2.cap⟩, ⟨(hS.rd 5 rfl), ha.s3.nil, ha.s3.cap⟩, ⟨(hS.rd 4 rfl), ha.s4.nil, ha.s4.cap⟩⟩) hu hv) ?_)
     rintro _ w176 ⟨p171_1, p171_c1, p171_2, p171_c2, p171_3, p171_c3, rfl, hs172, hs173, hs174, hb175⟩
     replace hS := hS.call hb175
     replace hS := hS.addR hs172.rd
     replace hS := hS.addR hs173.rd
     replace hS := hS.addR hs174.rd
     refine ⟨_, rfl, (hS.partD (.cons _ (.cons _ (.cons_cons _ (.cons_cons _ (.cons_cons _ .slnil))))) 3 rfl (.refl _)), ?_⟩
     intro a hA
     refine any_one (by kernel_rfl) (op_call hA 3 rfl rfl rfl rfl (enters_func  rfl rfl (fun w => by kernel_rfl)) (zspread_any (show Nm _ (Q6.rat x y) u1 uc1 u2 uc2 u3 uc3 u4 uc4 from ⟨⟨(hS.rd 6 rfl), hb.s1.nil, hb.s1.cap⟩, ⟨(hS.rd 5 rfl), hb.s2.nil, hb.s2.cap⟩, ⟨(hS.rd 4 rfl), hb.s3.nil, hb.s3.cap⟩, ⟨(hS.rd 3 rfl), hb.s4.nil, hb.s4.cap⟩⟩) hx hy) ?_)
     rintro _ w182 ⟨p177_1, p177_c1, p177_2, p177_c2, p177_3, p177_c3, rfl, hs178, hs179, hs180, hb181⟩
     replace hS := hS.call hb181
     replace hS := hS.addR hs178.rd
     replace hS := hS.addR hs179.rd
     replace hS := hS.addR hs180.rd
     refine ⟨_, rfl, (hS.partD (.cons _ (.cons _ (.cons_cons _ (.cons_cons _ (.cons_cons _ .slnil))))) 6 rfl (.refl _)), ?_⟩
     intro a hA
     refine any_one (by kernel_rfl) (op_store (us := [.bool ((rb (spX u v))), .slice p171_1 ((words (spX u v).natAbs).length) p171_c1, .bool ((rb (spY u v))), .slice p171_2 ((words (spY u v).natAbs).length) p171_c2, .slice p171_3 ((words (spD u v)).length) p171_c3]) hA hS 6 rfl rfl rfl (sets_store (cs := [.bool ((rb (spX u v))), .slice p171_1 ((words (spX u v).natAbs).length) p171_c1, .bool ((rb (spY u v))), .slice p171_2 ((words (spY u v).natAbs).length) p171_c2, .slice p171_3 ((words (spD u v)).length) p171_c3]) rfl rfl rfl (by kernel_rfl) hS 1 rfl rfl rfl) 1 rfl rfl rfl rfl ?_)
     intro w183 hS
     refine ⟨(hS.partD (.cons _ (.cons _ (.cons_cons _ (.cons_cons _ (.cons_cons _ .slnil))))) 6 rfl (.refl _)), ?_⟩
     refine any_one (by kernel_rfl) (op_store (us := [.bool ((rb (spX x y))), .slice p177_1 ((words (spX x y).natAbs).length) p177_c1, .bool ((rb (spY x y))), .slice p177_2 ((words (spY x y).natAbs).length) p177_c2, .slice p177_3 ((words (spD x y)).length) p177_c3]) hA hS 7 rfl rfl rfl (sets_store (cs := [.bool ((rb (spX x y))), .slice p177_1 ((words (spX x y).natAbs).length) p177_c1, .bool ((rb (spY x y))), .slice p177_2 ((words (spY x y).natAbs).length) p177_c2, .slice p177_3 ((words (spD x y)).length) p177_c3]) rfl rfl rfl (by kernel_rfl) hS 0 rfl rfl rfl) 0 rfl rfl rfl rfl ?_)
     intro w184 hS
     refine ⟨(hS.partD (.cons _ (.cons _ (.cons_cons _ (.cons_cons _ (.cons_cons _ .slnil))))) 6 rfl (.refl _)), ?_⟩
     refine any_end (by kernel_rfl) ?_
     refine hJ58 _ _ ⟨g141, g169, p171_1, p171_c1, p171_2, p171_c2, p171_3, p171_c3, p177_1, p177_c1, p177_2, p177_c2, p177_3, p177_c3, hA.keep _ ⟨rfl, rfl, rfl, rfl, rfl, rfl, rfl, rfl, rfl, rfl, rfl, rfl, rfl, rfl, rfl, trivial⟩, ((hS.pickR [(p177_3, words (spD x y)), (p177_2, words (spY x y).natAbs), (p177_1, words (spX x y).natAbs), (p171_3, words (spD u v)), (p171_2, words (spY u v).natAbs), (p171_1, words (spX u v).natAbs), (u4, words y.den), (u3, words y.num.natAbs), (u2, words x.den), (u1, words x.num.natAbs), (a4, words v.den), (a3, words v.num.natAbs), (a2, words u.den), (a1, words u.num.natAbs)] ⟨⟨0, rfl⟩, ⟨⟨1, rfl⟩, ⟨⟨2, rfl⟩, ⟨⟨3, rfl⟩, ⟨⟨4, rfl⟩, ⟨⟨5, rfl⟩, ⟨⟨6, rfl⟩, ⟨⟨7, rfl⟩, ⟨⟨8, rfl⟩, ⟨⟨9, rfl⟩, ⟨⟨10, rfl⟩, ⟨⟨11, rfl⟩, ⟨⟨12, rfl⟩, ⟨⟨13, rfl⟩, trivial⟩⟩⟩⟩⟩⟩⟩⟩⟩⟩⟩⟩⟩⟩).pickL [(g169, [.bool ((rb (spX x y))), .slice p177_1 ((words (spX x y).natAbs).length) p177_c1, .bool ((rb (spY x y))), .slice p177_2 ((words (spY x y).natAbs).length) p177_c2, .slice p177_3 ((words (spD x y)).length) p177_c3]), (g141, [.bool ((rb (spX u v))), .slice p171_1 ((words (spX u v).natAbs).length) p171_c1, .bool ((rb (spY u v))), .slice p171_2 ((words (spY u v).natAbs).length) p171_c2, .slice p171_3 ((words (spD u v)).length) p171_c3]), (g8, [.bool (rb u.num), .slice a1 ((words u.num.natAbs).length) ac1, .slice a2 ((words u.den).length) ac2, .bool (rb v.num), .slice a3 ((words v.num.natAbs).length) ac3, .slice a4 ((words v.den).length) ac4, .bool (rb x.num), .slice u1 ((words x.num.natAbs).length) uc1, .slice u2 ((words x.den).length) uc2, .bool (rb y.num), .slice u3 ((words y.num.natAbs).length) uc3, .slice u4 ((words y.den).length) uc4]), (g4, [.bool (rb x.num), .slice u1 ((words x.num.natAbs).length) uc1, .slice u2 ((words x.den).length) uc2, .bool (rb y.num), .slice u3 ((words y.num.natAbs).length) uc3, .slice u4 ((words y.den).length) uc4]), (g2, [.bool (rb u.num), .slice a1 ((words u.num.natAbs).length) ac1, .slice a2 ((words u.den).length) ac2, .bool (rb v.num), .slice a3 ((words v.num.natAbs).length) ac3, .slice a4 ((words v.den).length) ac4])] [0, 1, 2, 3, 4] rfl (by decide)), hs180.nil, hs180.cap, hs179.nil, hs179.cap, hs178.nil, hs178.cap, hs174.nil, hs174.cap, hs173.nil, hs173.cap, hs172.nil, hs172.cap⟩
 · refine op_new (vs := [.bool false, .slice none 0 0, .bool false, .slice none 0 0, .slice none 0 0]) (t := 55) hA hS 5 rfl rfl rfl rfl (fun g => .pointer (some ⟨g, 0, none⟩)) (d_alloc (z := .agg #[.bool false, .slice none 0 0, .bool false, .slice none 0 0, .slice none 0 0]) (by kernel_rfl) rfl) rfl ?_
   intro g185 w186 hS
   refine ⟨(hS.partD (.cons _ (.cons_cons _ (.cons_cons _ (.cons_cons _ .slnil)))) 0 rfl (.refl _)), ?_⟩
   intro a hA
   refine any_many (rs := [1, 4]) (by kernel_rfl) (by simp) ⟨?_, ?_, trivial⟩
   · refine op_call hA 1 rfl rfl rfl rfl (enters_func  rfl rfl (fun w => by kernel_rfl)) (zspread_any (show Nm _ (Q6.rat u v) a1 ac1 a2 ac2 a3 ac3 a4 ac4 from ⟨⟨(hS.rd 7 rfl), ha.s1.nil, ha.s1.cap⟩, ⟨(hS.rd 6 rfl), ha.s2.nil, ha.s2.cap⟩, ⟨(hS.rd 5 rfl), ha.s3.nil, ha.s3.cap⟩, ⟨(hS.rd 4 rfl), ha.s4.nil, ha.s4.cap⟩⟩) hu hv) ?_
     rintro _ w192 ⟨p187_1, p187_c1, p187_2, p187_c2, p187_3, p187_c3, rfl, hs188, hs189, hs190, hb191⟩
     replace hS := hS.call hb191
     replace hS := hS.addR hs188.rd
     replace hS := hS.addR hs189.rd
     replace hS := hS.addR hs190.rd
     refine ⟨_, rfl, (hS.partD (.cons _ (.cons_cons _ (.cons_cons _ (.cons_cons _ .slnil)))) 3 rfl (.refl _)), ?_⟩
     intro a hA
     refine any_many (rs := [3, 4]) (by kernel_rfl) (by simp) ⟨?_, ?_, trivial⟩
     · refine op_call hA 3 rfl rfl rfl rfl (enters_func  rfl rfl (fun w => by kernel_rfl)) (zspread_any (show Nm _ (Q6.rat x y) u1 uc1 u2 uc2 u3 uc3 u4 uc4 from ⟨⟨(hS.rd 6 rfl), hb.s1.nil, hb.s1.cap⟩, ⟨(hS.rd 5 rfl), hb.s2.nil, hb.s2.cap⟩, ⟨(hS.rd 4 rfl), hb.s3.nil, hb.s3.cap⟩, ⟨(hS.rd 3 rfl), hb.s4.nil, hb.s4.cap⟩⟩) hx hy) ?_
       rintro _ w198 ⟨p193_1, p193_c1, p193_2, p193_c2, p193_3, p193_c3, rfl, hs194, hs195, hs196, hb197⟩
       replace hS := hS.call hb197
       replace hS := hS.addR hs194.rd
       replace hS := hS.addR hs195.rd
       replace hS := hS.addR hs196.rd
       refine ⟨_, rfl, (hS.partD (.cons _ (.cons_cons _ (.cons_cons _ (.cons_cons _ .slnil)))) 6 rfl (.refl _)), ?_⟩
       intro a hA
       refine any_one (by kernel_rfl) (op_new (vs := [.bool false, .slice none 0 0, .bool false, .slice none 0 0, .slice none 0 0]) (t := 55) hA hS 4 rfl rfl rfl rfl (fun g => .pointer (some ⟨g, 0, none⟩)) (d_alloc (z := .agg #[.bool false, .slice none 0 0, .bool false, .slice none 0 0, .slice none 0 0]) (by kernel_rfl) rfl) rfl ?_)
       intro g199 w200 hS
       refine ⟨(hS.partD (.cons _ (.cons _ (.cons_cons _ (.cons_cons _ (.cons_cons _ .slnil))))) 6 rfl (.refl _)), ?_⟩
       intro a hA
       refine any_one (by kernel_rfl) (op_store (us := [.bool ((rb (spX u v))), .slice p187_1 ((words (spX u v).natAbs).length) p187_c1, .bool ((rb (spY u v))), .slice p187_2 ((words (spY u v).natAbs).length) p187_c2, .slice p187_3 ((words (spD u v)).length) p187_c3]) hA hS 6 rfl rfl rfl (sets_store (cs := [.bool ((rb (spX u v))), .slice p187_1 ((words (spX u v).natAbs).length) p187_c1, .bool ((rb (spY u v))), .slice p187_2 ((words (spY u v).natAbs).length) p187_c2, .slice p187_3 ((words (spD u v)).length) p187_c3]) rfl rfl rfl (by kernel_rfl) hS 0 rfl rfl rfl) 0 rfl rfl rfl rfl ?_)
       intro w201 hS
       refine ⟨(hS.partD (.cons _ (.cons _ (.cons_cons _ (.cons_cons _ (.cons_cons _ .slnil))))) 6 rfl (.refl _)), ?_⟩
       refine any_one (by kernel_rfl) (op_store (us := [.bool ((rb (spX x y))), .slice p193_1 ((words (spX x y).natAbs).length) p193_c1, .bool ((rb (spY x y))), .slice p193_2 ((words (spY x y).natAbs).length) p193_c2, .slice p193_3 ((words (spD x y)).length) p193_c3]) hA hS 7 rfl rfl rfl (sets_store (cs := [.bool ((rb (spX x y))), .slice p193_1 ((words (spX x y).natAbs).length) p193_c1, .bool ((rb (spY x y))), .slice p193_2 ((words (spY x y).natAbs).length) p193_c2, .slice p193_3 ((words (spD x y)).length) p193_c3]) rfl rfl rfl (by kernel_rfl) hS 1 rfl rfl rfl) 1 rfl rfl rfl rfl ?_)
       intro w202 hS
       refine ⟨(hS.partD (.cons _ (.cons _ (.cons_cons _ (.cons_cons _ (.cons_cons _ .slnil))))) 6 rfl (.refl _)), ?_⟩
       refine any_end (by kernel_rfl) ?_
       refine hJ58 _ _ ⟨g199, g185, p187_1, p187_c1, p187_2, p187_c2, p187_3, p187_c3, p193_1, p193_c1, p193_2, p193_c2, p193_3, p193_c3, hA.keep _ ⟨rfl, rfl, rfl, rfl, rfl, rfl, rfl, rfl, rfl, rfl, rfl, rfl, rfl, rfl, rfl, trivial⟩, ((hS.pickR [(p193_3, words (spD x y)), (p193_2, words (spY x y).natAbs), (p193_1, words (spX x y).natAbs), (p187_3, words (spD u v)), (p187_2, words (spY u v).natAbs), (p187_1, words (spX u v).natAbs), (u4, words y.den), (u3, words y.num.natAbs), (u2, words x.den), (u1, words x.num.natAbs), (a4, words v.den), (a3, words v.num.natAbs), (a2, words u.den), (a1, words u.num.natAbs)] ⟨⟨0, rfl⟩, ⟨⟨1, rfl⟩, ⟨⟨2, rfl⟩, ⟨⟨3, rfl⟩, ⟨⟨4, rfl⟩, ⟨⟨5, rfl⟩, ⟨⟨6, rfl⟩, ⟨⟨7, rfl⟩, ⟨⟨8, rfl⟩, ⟨⟨9, rfl⟩, ⟨⟨10, rfl⟩, ⟨⟨11, rfl⟩, ⟨⟨12, rfl⟩, ⟨⟨13, rfl⟩, trivial⟩⟩⟩⟩⟩⟩⟩⟩⟩⟩⟩⟩⟩⟩).pickL [(g185, [.bool ((rb (spX x y))), .slice p193_1 ((words (spX x y).natAbs).length) p193_c1, .bool ((rb (spY x y))), .slice p193_2 ((words (spY x y).natAbs).length) p193_c2, .slice p193_3 ((words (spD x y)).length) p193_c3]), (g199, [.bool ((rb (spX u v))), .slice p187_1 ((words (spX u v).natAbs).length) p187_c1, .bool ((rb (spY u v))), .slice p187_2 ((words (spY u v).natAbs).length) p187_c2, .slice p187_3 ((words (spD u v)).length) p187_c3]), (g8, [.bool (rb u.num), .slice a1 ((words u.num.natAbs).length) ac1, .slice a2 ((words u.den).length) ac2, .bool (rb v.num), .slice a3 ((words v.num.natAbs).length) ac3, .slice a4 ((words v.den).length) ac4, .bool (rb x.num), .slice u1 ((words x.num.natAbs).length) uc1, .slice u2 ((words x.den).length) uc2, .bool (rb y.num), .slice u3 ((words y.num.natAbs).length) uc3, .slice u4 ((words y.den).length) uc4]), (g4, [.bool (rb x.num), .slice u1 ((words x.num.natAbs).length) uc1, .slice u2 ((words x.den).length) uc2, .bool (rb y.num), .slice u3 ((words y.num.natAbs).length) uc3, .slice u4 ((words y.den).length) uc4]), (g2, [.bool (rb u.num), .slice a1 ((words u.num.natAbs).length) ac1, .slice a2 ((words u.den).length) ac2, .bool (rb v.num), .slice a3 ((words v.num.natAbs).length) ac3, .slice a4 ((words v.den).length) ac4])] [1, 0, 2, 3, 4] rfl (by decide)), hs196.nil, hs196.cap, hs195.nil, hs195.cap, hs194.nil, hs194.cap, hs190.nil, hs190.cap, hs189.nil, hs189.cap, hs188.nil, hs188.cap⟩
     · refine op_new (vs := [.bool false, .slice none 0 0, .bool false, .slice none 0 0, .slice none 0 0]) (t := 55) hA hS 4 rfl rfl rfl rfl (fun g => .pointer (some ⟨g, 0, none⟩)) (d_alloc (z := .agg #[.bool false, .slice none 0 0, .bool false, .slice none 0 0, .slice none 0 0]) (by kernel_rfl) rfl) rfl ?_
       intro g203 w204 hS
       refine ⟨(hS.partD (.cons _ (.cons _ (.cons_cons _ (.cons_cons _ (.cons_cons _ .slnil))))) 3 rfl (.refl _)), ?_⟩
       intro a hA
       refine any_one (by kernel_rfl) (op_call hA 3 rfl rfl rfl rfl (enters_func  rfl rfl (fun w => by kernel_rfl)) (zspread_any (show Nm _ (Q6.rat x y) u1 uc1 u2 uc2 u3 uc3 u4 uc4 from ⟨⟨(hS.rd 6 rfl), hb.s1.nil, hb.s1.cap⟩, ⟨(hS.rd 5 rfl), hb.s2.nil, hb.s2.cap⟩, ⟨(hS.rd 4 rfl), hb.s3.nil, hb.s3.cap⟩, ⟨(hS.rd 3 rfl), hb.s4.nil, hb.s4.cap⟩⟩) hx hy) ?_)
       rintro _ w210 ⟨p205_1, p205_c1, p205_2, p205_c2, p205_3, p205_c3, rfl, hs206, hs207, hs208, hb209⟩
       replace hS := hS.call hb209
       replace hS := hS.addR hs206.rd
       replace hS := hS.addR hs207.rd
       replace hS := hS.addR hs208.rd
       refine ⟨_, rfl, (hS.partD (.cons _ (.cons _ (.cons_cons _ (.cons_cons _ (.cons_cons _ .slnil))))) 6 rfl (.refl _)), ?_⟩
       intro a hA
       refine any_one (by kernel_rfl) (op_store (us := [.bool ((rb (spX u v))), .slice p187_1 ((words (spX u v).natAbs).length) p187_c1, .bool ((rb (spY u v))), .slice p187_2 ((words (spY u v).natAbs).length) p187_c2, .slice p187_3 ((words (spD u v)).length) p187_c3]) hA hS 6 rfl rfl rfl (sets_store (cs := [.bool ((rb (spX u v))), .slice p187_1 ((words (spX u v).natAbs).length) p187_c1, .bool ((rb (spY u v))), .slice p187_2 ((words (spY u v).natAbs).length) p187_c2, .slice p187_3 ((words (spD u v)).length) p187_c3]) rfl rfl rfl (by kernel_rfl) hS 0 rfl rfl rfl) 0 rfl rfl rfl rfl ?_)
       intro w211 hS
       refine ⟨(hS.partD (.cons _ (.cons _ (.cons_cons _ (.cons_cons _ (.cons_cons _ .slnil))))) 6 rfl (.refl _)), ?_⟩
       refine any_one (by kernel_rfl) (op_store (us := [.bool ((rb (spX x y))), .slice p205_1 ((words (spX x y).natAbs).length) p205_c1, .bool ((rb (spY x y))), .slice p205_2 ((words (spY x y).natAbs).length) p205_c2, .slice p205_3 ((words (spD x y)).length) p205_c3]) hA hS 7 rfl rfl rfl (sets_store (cs := [.bool ((rb (spX x y))), .slice p205_1 ((words (spX x y).natAbs).length) p205_c1, .bool ((rb (spY x y))), .slice p205_2 ((words (spY x y).natAbs).length) p205_c2, .slice p205_3 ((words (spD x y)).length) p205_c3]) rfl rfl rfl (by kernel_rfl) hS 1 rfl rfl rfl) 1 rfl rfl rfl rfl ?_)
       intro w212 hS
       refine ⟨(hS.partD (.cons _ (.cons _ (.cons_cons _ (.cons_cons _ (.cons_cons _ .slnil))))) 6 rfl (.refl _)), ?_⟩
       refine any_end (by kernel_rfl) ?_
       refine hJ58 _ _ ⟨g203, g185, p187_1, p187_c1, p187_2, p187_c2, p187_3, p187_c3, p205_1, p205_c1, p205_2, p205_c2, p205_3, p205_c3, hA.keep _ ⟨rfl, rfl, rfl, rfl, rfl, rfl, rfl, rfl, rfl, rfl, rfl, rfl, rfl, rfl, rfl, trivial⟩, ((hS.pickR [(p205_3, words (spD x y)), (p205_2, words (spY x y).natAbs), (p205_1, words (spX x y).natAbs), (p187_3, words (spD u v)), (p187_2, words (spY u v).natAbs), (p187_1, words (spX u v).natAbs), (u4, words y.den), (u3, words y.num.natAbs), (u2, words x.den), (u1, words x.num.natAbs), (a4, words v.den), (a3, words v.num.natAbs), (a2, words u.den), (a1, words u.num.natAbs)] ⟨⟨0, rfl⟩, ⟨⟨1, rfl⟩, ⟨⟨2, rfl⟩, ⟨⟨3, rfl⟩, ⟨⟨4, rfl⟩, ⟨⟨5, rfl⟩, ⟨⟨6, rfl⟩, ⟨⟨7, rfl⟩, ⟨⟨8, rfl⟩, ⟨⟨9, rfl⟩, ⟨⟨10, rfl⟩, ⟨⟨11, rfl⟩, ⟨⟨12, rfl⟩, ⟨⟨13, rfl⟩, trivial⟩⟩⟩⟩⟩⟩⟩⟩⟩⟩⟩⟩⟩⟩).pickL [(g185, [.bool ((rb (spX x y))), .slice p205_1 ((words (spX x y).natAbs).length) p205_c1, .bool ((rb (spY x y))), .slice p205_2 ((words (spY x y).natAbs).length) p205_c2, .slice p205_3 ((words (spD x y)).length) p205_c3]), (g203, [.bool ((rb (spX u v))), .slice p187_1 ((words (spX u v).natAbs).length) p187_c1, .bool ((rb (spY u v))), .slice p187_2 ((words (spY u v).natAbs).length) p187_c2, .slice p187_3 ((words (spD u v)).length) p187_c3]), (g8, [.bool (rb u.num), .slice a1 ((words u.num.natAbs).length) ac1, .slice a2 ((words u.den).length) ac2, .bool (rb v.num), .slice a3 ((words v.num.natAbs).length) ac3, .slice a4 ((words v.den).length) ac4, .bool (rb x.num), .slice u1 ((words x.num.natAbs).length) uc1, .slice u2 ((words x.den).length) uc2, .bool (rb y.num), .slice u3 ((words y.num.natAbs).length) uc3, .slice u4 ((words y.den).length) uc4]), (g4, [.bool (rb x.num), .slice u1 ((words x.num.natAbs).length) uc1, .slice u2 ((words x.den).length) uc2, .bool (rb y.num), .slice u3 ((words y.num.natAbs).length) uc3, .slice u4 ((words y.den).length) uc4]), (g2, [.bool (rb u.num), .slice a1 ((words u.num.natAbs).length) ac1, .slice a2 ((words u.den).length) ac2, .bool (rb v.num), .slice a3 ((words v.num.natAbs).length) ac3, .slice a4 ((words v.den).length) ac4])] [1, 0, 2, 3, 4] rfl (by decide)), hs208.nil, hs208.cap, hs207.nil, hs207.cap, hs206.nil, hs206.cap, hs190.nil, hs190.cap, hs189.nil, hs189.cap, hs188.nil, hs188.cap⟩
   · refine op_new (vs := [.bool false, .slice none 0 0, .bool false, .slice none 0 0, .slice none 0 0]) (t := 55) hA hS 4 rfl rfl rfl rfl (fun g => .pointer (some ⟨g, 0, none⟩)) (d_alloc (z := .agg #[.bool false, .slice none 0 0, .bool false, .slice none 0 0, .slice none 0 0]) (by kernel_rfl) rfl) rfl ?_
     intro g213 w214 hS
     refine ⟨(hS.partD (.cons _ (.cons _ (.cons_cons _ (.cons_cons _ (.cons_cons _ .slnil))))) 0 rfl (.refl _)), ?_⟩
     intro a hA
     refine any_one (by kernel_rfl) (op_call hA 1 rfl rfl rfl rfl (enters_func  rfl rfl (fun w => by kernel_rfl)) (zspread_any (show Nm _ (Q6.rat u v) a1 ac1 a2 ac2 a3 ac3 a4 ac4 from ⟨⟨(hS.rd 7 rfl), ha.s1.nil, ha.s1.cap⟩, ⟨(hS.rd 6 rfl), ha.s2.nil, ha.s2.cap⟩, ⟨(hS.rd 5 rfl), ha.s3.nil, ha.s3.cap⟩, ⟨(hS.rd 4 rfl), ha.s4.nil, ha.s4.cap⟩⟩) hu hv) ?_)
     rintro _ w220 ⟨p215_1, p215_c1, p215_2, p215_c2, p215_3, p215_c3, rfl, hs216, hs217, hs218, hb219⟩
     replace hS := hS.call hb219
     replace hS := hS.addR hs216.rd
     replace hS := hS.addR hs217.rd
     replace hS := hS.addR hs218.rd
     refine ⟨_, rfl, (hS.partD (.cons _ (.cons _ (.cons_cons _ (.cons_cons _ (.cons_cons _ .slnil))))) 3 rfl (.refl _)), ?_⟩
     intro a hA
     refine any_one (by kernel_rfl) (op_call hA 3 rfl rfl rfl rfl (enters_func  rfl rfl (fun w => by kernel_rfl)) (zspread_any (show Nm _ (Q6.rat x y) u1 uc1 u2 uc2 u3 uc3 u4 uc4 from ⟨⟨(hS.rd 6 rfl), hb.s1.nil, hb.s1.cap⟩, ⟨(hS.rd 5 rfl), hb.s2.nil, hb.s2.cap⟩, ⟨(hS.rd 4 rfl), hb.s3.nil, hb.s3.cap⟩, ⟨(hS.rd 3 rfl), hb.s4.nil, hb.s4.cap⟩⟩) hx hy) ?_)
     rintro _ w226 ⟨p221_1, p221_c1, p221_2, p221_c2, p221_3, p221_c3, rfl, hs222, hs223, hs224, hb225⟩
     replace hS := hS.call hb225
     replace hS := hS.addR hs222.rd
     replace hS := hS.addR hs223.rd
     replace hS := hS.addR hs224.rd
     refine ⟨_, rfl, (hS.partD (.cons _ (.cons _ (.cons_cons _ (.cons_cons _ (.cons_cons _ .slnil))))) 6 rfl (.refl _)), ?_⟩
     intro a hA
     refine any_one (by kernel_rfl) (op_store (us := [.bool ((rb (spX u v))), .slice p215_1 ((words (spX u v).natAbs).length) p215_c1, .bool ((rb (spY u v))), .slice p215_2 ((words (spY u v).natAbs).length) p215_c2, .slice p215_3 ((words (spD u v)).length) p215_c3]) hA hS 6 rfl rfl rfl (sets_store (cs := [.bool ((rb (spX u v))), .slice p215_1 ((words (spX u v).natAbs).length) p215_c1, .bool ((rb (spY u v))), .slice p215_2 ((words (spY u v).natAbs).length) p215_c2, .slice p215_3 ((words (spD u v)).length) p215_c3]) rfl rfl rfl (by kernel_rfl) hS 0 rfl rfl rfl) 0 rfl rfl rfl rfl ?_)
     intro w227 hS
     refine ⟨(hS.partD (.cons _ (.cons _ (.cons_cons _ (.cons_cons _ (.cons_cons _ .slnil))))) 6 rfl (.refl _)), ?_⟩
     refine any_one (by kernel_rfl) (op_store (us := [.bool ((rb (spX x y))), .slice p221_1 ((words (spX x y).natAbs).length) p221_c1, .bool ((rb (spY x y))), .slice p221_2 ((words (spY x y).natAbs).length) p221_c2, .slice p221_3 ((words (spD x y)).length) p221_c3]) hA hS 7 rfl rfl rfl (sets_store (cs := [.bool ((rb (spX x y))), .slice p221_1 ((words (spX x y).natAbs).length) p221_c1, .bool ((rb (spY x y))), .slice p221_2 ((words (spY x y).natAbs).length) p221_c2, .slice p221_3 ((words (spD x y)).length) p221_c3]) rfl rfl rfl (by kernel_rfl) hS 1 rfl rfl rfl) 1 rfl rfl rfl rfl ?_)
     intro w228 hS
     refine ⟨(hS.partD (.cons _ (.cons _ (.cons_cons _ (.cons_cons _ (.cons_cons _ .slnil))))) 6 rfl (.refl _)), ?_⟩
     refine any_end (by kernel_rfl) ?_
     refine hJ58 _ _ ⟨g213, g185, p215_1, p215_c1, p215_2, p215_c2, p215_3, p215_c3, p221_1, p221_c1, p221_2, p221_c2, p221_3, p221_c3, hA.keep _ ⟨rfl, rfl, rfl, rfl, rfl, rfl, rfl, rfl, rfl, rfl, rfl, rfl, rfl, rfl, rfl, trivial⟩, ((hS.pickR [(p221_3, words (spD x y)), (p221_2, words (spY x y).natAbs), (p221_1, words (spX x y).natAbs), (p215_3, words (spD u v)), (p215_2, words (spY u v).natAbs), (p215_1, words (spX u v).natAbs), (u4, words y.den), (u3, words y.num.natAbs), (u2, words x.den), (u1, words x.num.natAbs), (a4, words v.den), (a3, words v.num.natAbs), (a2, words u.den), (a1, words u.num.natAbs)] ⟨⟨0, rfl⟩, ⟨⟨1, rfl⟩, ⟨⟨2, rfl⟩, ⟨⟨3, rfl⟩, ⟨⟨4, rfl⟩, ⟨⟨5, rfl⟩, ⟨⟨6, rfl⟩, ⟨⟨7, rfl⟩, ⟨⟨8, rfl⟩, ⟨⟨9, rfl⟩, ⟨⟨10, rfl⟩, ⟨⟨11, rfl⟩, ⟨⟨12, rfl⟩, ⟨⟨13, rfl⟩, trivial⟩⟩⟩⟩⟩⟩⟩⟩⟩⟩⟩⟩⟩⟩).pickL [(g185, [.bool ((rb (spX x y))), .slice p221_1 ((words (spX x y).natAbs).length) p221_c1, .bool ((rb (spY x y))), .slice p221_2 ((words (spY x y).natAbs).length) p221_c2, .slice p221_3 ((words (spD x y)).length) p221_c3]), (g213, [.bool ((rb (spX u v))), .slice p215_1 ((words (spX u v).natAbs).length) p215_c1, .bool ((rb (spY u v))), .slice p215_2 ((words (spY u v).natAbs).length) p215_c2, .slice p215_3 ((words (spD u v)).length) p215_c3]), (g8, [.bool (rb u.num), .slice a1 ((words u.num.natAbs).length) ac1, .slice a2 ((words u.den).length) ac2, .bool (rb v.num), .slice a3 ((words v.num.natAbs).length) ac3, .slice a4 ((words v.den).length) ac4, .bool (rb x.num), .slice u1 ((words x.num.natAbs).length) uc1, .slice u2 ((words x.den).length) uc2, .bool (rb y.num), .slice u3 ((words y.num.natAbs).length) uc3, .slice u4 ((words y.den).length) uc4]), (g4, [.bool (rb x.num), .slice u1 ((words x.num.natAbs).length) uc1, .slice u2 ((words x.den).length) uc2, .bool (rb y.num), .slice u3 ((words y.num.natAbs).length) uc3, .slice u4 ((words y.den).length) uc4]), (g2, [.bool (rb u.num), .slice a1 ((words u.num.natAbs).length) ac1, .slice a2 ((words u.den).length) ac2, .bool (rb v.num), .slice a3 ((words v.num.natAbs).length) ac3, .slice a4 ((words v.den).length) ac4])] [1, 0, 2, 3, 4] rfl (by decide)), hs224.nil, hs224.cap, hs223.nil, hs223.cap, hs222.nil, hs222.cap, hs218.nil, hs218.cap, hs217.nil, hs217.cap, hs216.nil, hs216.cap⟩
theorem cmpQ_any {w : World} {p q : Q6} {a1 a2 a3 a4 : Option Addr} {ac1 ac2 ac3 ac4 : Nat} (ha : Nm w p a1 ac1 a2 ac2 a3 ac3 a4 ac4) (hl : LenQ p) {u1 u2 u3 u4 : Option Addr} {uc1 uc2 uc3 uc4 : Nat} (hb : Nm w q u1 uc1 u2 uc2 u3 uc3 u4 uc4) (hm : LenQ q) : Calls Tryz.prog 12 #[numV p a1 ac1 a2 ac2 a3 ac3 a4 ac4, numV q u1 uc1 u2 uc2 u3 uc3 u4 uc4] w fun e w' => e = .returned (.tuple #[.int .i64 (cmpQ p q).1, .int .i64 (cmpQ p q).2]) ∧ Below w.heap.size w w' := by
  unfold cmpQ
  by_cases hw : wantR2 p q = 0
  · rw [if_pos hw]
    obtain ⟨s1, s2⟩ := wantR2_ok hw
    obtain ⟨u, v, rfl, hu, hv⟩ := sound_rat ha.s1.rd.dig ha.s2.rd.dig ha.s3.rd.dig ha.s4.rd.dig s1
    obtain ⟨x, y, rfl, hx, hy⟩ := sound_rat hb.s1.rd.dig hb.s2.rd.dig hb.s3.rd.dig hb.s4.rd.dig s2
    rw [reQ_rat, reQ_rat]
    exact cmpW_any ha hb hu hv hx hy hw
  · rw [if_neg hw]
    exact cmpE_any ha hl hb hm (bne_of hw)
end Go.Proofs.YthlkbnhbmfmchaaGreat
namespace Go.Proofs.YthlkbnhbmfmchaaGreat
open Go.RowKit
set_option linter.unusedVariables false
set_option linter.unusedSimpArgs false
set_option maxRecDepth 100000
theorem SmC_isS_26 : IsS Tryz.prog 26 6 := ⟨⟨_, Tryz.underlying26⟩, by kernel_rfl⟩
theorem rsmallQ_any {w : World} {q : Q6} {a1 a2 a3 a4 : Option Addr} {ac1 ac2 ac3 ac4 : Nat} (ha : Nm w q a1 ac1 a2 ac2 a3 ac3 a4 ac4) (hl : LenQ q) : Calls Tryz.prog 15 #[numV q a1 ac1 a2 ac2 a3 ac3 a4 ac4] w fun e w' => e = .returned (.tuple #[.int .i64 (smallQ q).1, .int .i64 (smallQ q).2]) ∧ Below w.heap.size w w' := by
  cases h1 : soundQ q with
  | false =>
    rw [smallQ_bad h1]
    exact rsmallE0_any ha hl h1
  | true =>
    cases hw : wholeQ q with
    | false =>
      rw [smallQ_type h1 hw]
      exact rsmallE1_any ha hl h1 hw
    | true =>
      obtain ⟨x, e, hx, hb⟩ := whole_form ha.s1.rd.dig ha.s4.rd.dig hw
      generalize q.b1 = b at e hb
      subst e
      rw [smallQ_whole hw]
      unfold smallS
      by_cases h64 : bl x ≤ 64
      · have h64' : x < 18446744073709551616 := bl_le.1 h64
        unfold Q6.whole at *
        by_cases k0 : x = 0
        · subst k0
          rw [words_zero] at *
          cases b
          · rw [if_pos (by decide)]
            exact rsmall0fS_any ha h1 hw words_zero h64 (by decide)
          · simp at hb
        by_cases k1 : x < 4294967296
        · have hk := words_single k0 k1
          rw [hk] at ha h1 hw ⊢
          rw [if_pos (by omega)]
          cases b
          · exact rsmall1fS_any k1 ha h1 hw hk h64 (by omega)
          · exact rsmall1tS_any k1 ha h1 hw hk h64 (by omega) (by omega)
        have hk := words_double (by omega : 4294967296 ≤ x) h64'
        have e : x / 4294967296 * 4294967296 + x % 4294967296 = x := by omega
        rw [hk] at ha h1 hw ⊢
        by_cases hc : x ≤ 9223372036854775807 + b.toNat
        · rw [if_pos hc]
          cases b
          · exact rsmall2fS_any (d0 := x % 4294967296) (d1 := x / 4294967296) (by omega) (by omega) rfl (by omega) ha h1 hw hk h64 (by simpa using hc)
          · exact rsmall2tS_any (d0 := x % 4294967296) (d1 := x / 4294967296) (by omega) (by omega) rfl (by omega) ha h1 hw hk h64 (by simpa using hc) (by omega)
        · rw [if_neg hc]
          cases b
          · exact rsmall2fL_any (d0 := x % 4294967296) (d1 := x / 4294967296) (by omega) (by omega) rfl (by omega) ha h1 hw hk h64 (by simpa using hc)
          · exact rsmall2tL_any (d0 := x % 4294967296) (d1 := x / 4294967296) (by omega) (by omega) rfl (by omega) ha h1 hw hk h64 (by simpa using hc) (by omega)
      · have hbig : ¬ x ≤ 9223372036854775807 + b.toNat := by
          have : ¬ x < 18446744073709551616 := fun h => h64 (bl_le.2 h)
          have : b.toNat ≤ 1 := by cases b <;> decide
          omega
        rw [if_neg hbig]
        exact rsmallX_any ha hl h1 hw hx (by omega)
theorem rintQ_any {w : World} {n : Int} (h0 : -9223372036854775808 ≤ n) (h1 : n ≤ 9223372036854775807) : Calls Tryz.prog 25 #[.int .i64 n] w (AnsV w (intQ n)) := by
  by_cases h : n < 0
  · obtain ⟨k, hk⟩ := Int.eq_ofNat_of_zero_le (show 0 ≤ -n - 1 by omega)
    have e : n = -((k + 1 : Nat) : Int) := by omega
    subst e
    have := rintN_any (w := w) (k := k) (by omega)
    unfold intQ
    rw [decide_eq_true h, show (-((k + 1 : Nat) : Int)).natAbs = k + 1 from by omega]
    exact this
  · obtain ⟨k, hk⟩ := Int.eq_ofNat_of_zero_le (show 0 ≤ n by omega)
    subst hk
    have := rintP_any (w := w) (k := k) (by omega)
    unfold intQ
    rw [decide_eq_false h, Int.natAbs_natCast]
    exact this
theorem lenQ_int {n : Int} (h0 : -9223372036854775808 ≤ n) (h1 : n ≤ 9223372036854775807) : LenQ (intQ n) := lenQ_whole (gr_len (by omega))
theorem intQ_as {w : World} {n : Int} (h0 : -9223372036854775808 ≤ n) (h1 : n ≤ 9223372036854775807) {z : Q6} (hz : intQ n = z) : Calls Tryz.prog 24 #[.int .i64 n] w (AnsV w z) := hz ▸ intQ_any h0 h1
theorem rintQ_as {w : World} {n : Int} (h0 : -9223372036854775808 ≤ n) (h1 : n ≤ 9223372036854775807) {z : Q6} (hz : intQ n = z) : Calls Tryz.prog 25 #[.int .i64 n] w (AnsV w z) := hz ▸ rintQ_any h0 h1
theorem cmpQ_at {w : World} {p q : Q6} {a1 a2 a3 a4 : Option Addr} {ac1 ac2 ac3 ac4 : Nat} (ha : Nm w p a1 ac1 a2 ac2 a3 ac3 a4 ac4) (hl : LenQ p) {u1 u2 u3 u4 : Option Addr} {uc1 uc2 uc3 uc4 : Nat} (hb : Nm w q u1 uc1 u2 uc2 u3 uc3 u4 uc4) (hm : LenQ q) {c1 c2 : Int} (hz : cmpQ p q = (c1, c2)) : Calls Tryz.prog 12 #[numV p a1 ac1 a2 ac2 a3 ac3 a4 ac4, numV q u1 uc1 u2 uc2 u3 uc3 u4 uc4] w fun e w' => e = .returned (.tuple #[.int .i64 c1, .int .i64 c2]) ∧ Below w.heap.size w w' := by
  have h := cmpQ_any ha hl hb hm
  rw [hz] at h
  exact h
theorem rcmpQ_at {w : World} {p q : Q6} {a1 a2 a3 a4 : Option Addr} {ac1 ac2 ac3 ac4 : Nat} (ha : Nm w p a1 ac1 a2 ac2 a3 ac3 a4 ac4) (hl : LenQ p) {u1 u2 u3 u4 : Option Addr} {uc1 uc2 uc3 uc4 : Nat} (hb : Nm w q u1 uc1 u2 uc2 u3 uc3 u4 uc4) (hm : LenQ q) {c1 c2 : Int} (hz : cmpQ p q = (c1, c2)) : Calls Tryz.prog 13 #[numV p a1 ac1 a2 ac2 a3 ac3 a4 ac4, numV q u1 uc1 u2 uc2 u3 uc3 u4 uc4] w fun e w' => e = .returned (.tuple #[.int .i64 c1, .int .i64 c2]) ∧ Below w.heap.size w w' := by
  have h := rcmpQ_any ha hl hb hm
  rw [hz] at h
  exact h
theorem smallQ_at {w : World} {q : Q6} {a1 a2 a3 a4 : Option Addr} {ac1 ac2 ac3 ac4 : Nat} (ha : Nm w q a1 ac1 a2 ac2 a3 ac3 a4 ac4) (hl : LenQ q) {c1 c2 : Int} (hz : smallQ q = (c1, c2)) : Calls Tryz.prog 14 #[numV q a1 ac1 a2 ac2 a3 ac3 a4 ac4] w fun e w' => e = .returned (.tuple #[.int .i64 c1, .int .i64 c2]) ∧ Below w.heap.size w w' := by
  have h := smallQ_any ha hl
  rw [hz] at h
  exact h
theorem rsmallQ_at {w : World} {q : Q6} {a1 a2 a3 a4 : Option Addr} {ac1 ac2 ac3 ac4 : Nat} (ha : Nm w q a1 ac1 a2 ac2 a3 ac3 a4 ac4) (hl : LenQ q) {c1 c2 : Int} (hz : smallQ q = (c1, c2)) : Calls Tryz.prog 15 #[numV q a1 ac1 a2 ac2 a3 ac3 a4 ac4] w fun e w' => e = .returned (.tuple #[.int .i64 c1, .int .i64 c2]) ∧ Below w.heap.size w w' := by
  have h := rsmallQ_any ha hl
  rw [hz] at h
  exact h
theorem sumsW_any {w : World} {p q : Q6} {a1 a2 a3 a4 : Option Addr} {ac1 ac2 ac3 ac4 : Nat} (ha : Nm w p a1 ac1 a2 ac2 a3 ac3 a4 ac4) (hl : LenQ p) {u1 u2 u3 u4 : Option Addr} {uc1 uc2 uc3 uc4 : Nat} (hb : Nm w q u1 uc1 u2 uc2 u3 uc3 u4 uc4) (hm : LenQ q) {n : Int} (h0 : -9223372036854775808 ≤ n) (h1 : n ≤ 9223372036854775807) {z1 z2 : Q6 × Int} {c1 c2 s1 s2 : Int} {bs bo bw : Bool} {zi : Q6} (e1 : addQ p q = z1) (l1 : LenQ z1.1) (e2 : subQ p q = z2) (l2 : LenQ z2.1) (ec : cmpQ p q = (c1, c2)) (em : smallQ p = (s1, s2)) (es : sameQ p q = bs) (eo : soundQ p = bo) (ew : wholeQ p = bw) (ei : intQ n = zi) (li : LenQ zi) : Calls Tryz.prog 3 #[numV p a1 ac1 a2 ac2 a3 ac3 a4 ac4, numV q u1 uc1 u2 uc2 u3 uc3 u4 uc4, .int .i64 n] w fun e w' => e = .returned (.bool true) ∧ Below w.heap.size w w' := by
 have hS : St w w [] [(u4, q.q2), (u3, q.t2), (u2, q.q1), (u1, q.t1), (a4, p.q2), (a3, p.t2), (a2, p.q1), (a1, p.t1)] [] := ((((((((St.start w).addR ha.s1.rd).addR ha.s2.rd).addR ha.s3.rd).addR ha.s4.rd).addR hb.s1.rd).addR hb.s2.rd).addR hb.s3.rd).addR hb.s4.rd
 refine walk_of (l := [(0, .agg #[.bool p.b1, .slice a1 p.t1.length ac1, .slice a2 p.q1.length ac2, .bool p.b2, .slice a3 p.t2.length ac3, .slice a4 p.q2.length ac4]), (1, .agg #[.bool q.b1, .slice u1 q.t1.length uc1, .slice u2 q.q1.length uc2, .bool q.b2, .slice u3 q.t2.length uc3, .slice u4 q.q2.length uc4]), (2, .int .i64 n)]) Tryz.func3 rfl Tryz.ntmps3 rfl rfl ?_
 intro Q hret hnorm hP a hA
 refine wp_seq_k (fun K1 hK1 => ?_)
 refine wp_region_lit ?_
 refine seq_new (vs := [.bool p.b1, .slice a1 p.t1.length ac1, .slice a2 p.q1.length ac2, .bool p.b2, .slice a3 p.t2.length ac3, .slice a4 p.q2.length ac4]) (t := 26) hA hS rfl rfl rfl (fun g => .pointer (some ⟨g, 0, none⟩)) (d_box rfl rfl) rfl ?_
 intro g2 w3 hS a hA
 refine seq_new (vs := [.bool q.b1, .slice u1 q.t1.length uc1, .slice u2 q.q1.length uc2, .bool q.b2, .slice u3 q.t2.length uc3, .slice u4 q.q2.length uc4]) (t := 26) hA hS rfl rfl rfl (fun g => .pointer (some ⟨g, 0, none⟩)) (d_box rfl rfl) rfl ?_
 intro g4 w5 hS a hA
 refine seq_do hA rfl rfl rfl (d_assign rfl) ?_
 intro a hA
 refine seq_end ?_
 refine hK1 _ _ ?_
 refine wp_seq_k (fun K6 hK6 => ?_)
 refine wp_region_lit ?_
 refine seq_do hA rfl rfl rfl (d_loadS hS SmC_isS_26 rfl 1 rfl (cs := [.bool p.b1, .slice a1 p.t1.length ac1, .slice a2 p.q1.length ac2, .bool p.b2, .slice a3 p.t2.length ac3, .slice a4 p.q2.length ac4]) rfl rfl) ?_
 intro a hA
 refine seq_do hA rfl rfl rfl (d_loadS hS SmC_isS_26 rfl 0 rfl (cs := [.bool q.b1, .slice u1 q.t1.length uc1, .slice u2 q.q1.length uc2, .bool q.b2, .slice u3 q.t2.length uc3, .slice u4 q.q2.length uc4]) rfl rfl) ?_
 intro a hA
 refine seq_call hA rfl rfl rfl (enters_func  rfl rfl (fun w => by kernel_rfl)) (addQ_as (show Nm _ p a1 ac1 a2 ac2 a3 ac3 a4 ac4 from ⟨⟨(hS.rd 7 rfl), ha.s1.nil, ha.s1.cap⟩, ⟨(hS.rd 6 rfl), ha.s2.nil, ha.s2.cap⟩, ⟨(hS.rd 5 rfl), ha.s3.nil, ha.s3.cap⟩, ⟨(hS.rd 4 rfl), ha.s4.nil, ha.s4.cap⟩⟩) hl (show Nm _ q u1 uc1 u2 uc2 u3 uc3 u4 uc4 from ⟨⟨(hS.rd 3 rfl), hb.s1.nil, hb.s1.cap⟩, ⟨(hS.rd 2 rfl), hb.s2.nil, hb.s2.cap⟩, ⟨(hS.rd 1 rfl), hb.s3.nil, hb.s3.cap⟩, ⟨(hS.rd 0 rfl), hb.s4.nil, hb.s4.cap⟩⟩) hm e1) ?_
 rintro _ w10 ⟨p7_1, p7_c1, p7_2, p7_c2, p7_3, p7_c3, p7_4, p7_c4, rfl, hn8, hb9⟩
 replace hS := hS.call hb9
 replace hS := hS.addR hn8.s1.rd
 replace hS := hS.addR hn8.s2.rd
 replace hS := hS.addR hn8.s3.rd
 replace hS := hS.addR hn8.s4.rd
 refine ⟨_, rfl, ?_⟩
 intro a hA
 refine seq_do hA rfl rfl rfl (d_move rfl) ?_
 intro a hA
 refine seq_do (v := .agg #[.bool z1.1.b1, .slice p7_1 z1.1.t1.length p7_c1, .slice p7_2 z1.1.q1.length p7_c2, .bool z1.1.b2, .slice p7_3 z1.1.t2.length p7_c3, .slice p7_4 z1.1.q2.length p7_c4]) hA rfl rfl rfl (d_extract (vs := [.agg #[.bool z1.1.b1, .slice p7_1 z1.1.t1.length p7_c1, .slice p7_2 z1.1.q1.length p7_c2, .bool z1.1.b2, .slice p7_3 z1.1.t2.length p7_c3, .slice p7_4 z1.1.q2.length p7_c4], .int .i64 z1.2]) rfl rfl) ?_
 intro a hA
 refine seq_do (v := .int .i64 z1.2) hA rfl rfl rfl (d_extract (vs := [.agg #[.bool z1.1.b1, .slice p7_1 z1.1.t1.length p7_c1, .slice p7_2 z1.1.q1.length p7_c2, .bool z1.1.b2, .slice p7_3 z1.1.t2.length p7_c3, .slice p7_4 z1.1.q2.length p7_c4], .int .i64 z1.2]) rfl rfl) ?_
 intro a hA
 refine seq_new (vs := [.bool false, .slice none 0 0, .slice none 0 0, .bool false, .slice none 0 0, .slice none 0 0]) (t := 26) hA hS rfl rfl rfl (fun g => .pointer (some ⟨g, 0, none⟩)) (d_alloc (z := .agg #[.bool false, .slice none 0 0, .slice none 0 0, .bool false, .slice none 0 0, .slice none 0 0]) (by kernel_rfl) rfl) rfl ?_
 intro g11 w12 hS a hA
 refine seq_store (us := [.bool z1.1.b1, .slice p7_1 z1.1.t1.length p7_c1, .slice p7_2 z1.1.q1.length p7_c2, .bool z1.1.b2, .slice p7_3 z1.1.t2.length p7_c3, .slice p7_4 z1.1.q2.length p7_c4]) hA hS rfl rfl (sets_store (cs := [.bool z1.1.b1, .slice p7_1 z1.1.t1.length p7_c1, .slice p7_2 z1.1.q1.length p7_c2, .bool z1.1.b2, .slice p7_3 z1.1.t2.length p7_c3, .slice p7_4 z1.1.q2.length p7_c4]) rfl rfl rfl (by kernel_rfl) hS 0 rfl rfl rfl) 0 rfl rfl rfl rfl ?_
 intro w13 hS
 refine seq_do hA rfl rfl rfl (d_assign rfl) ?_
 intro a hA
 refine seq_end ?_
 refine hK6 _ _ ?_
 refine wp_seq_k (fun K14 hK14 => ?_)
 refine wp_region_lit ?_
 refine seq_do hA rfl rfl rfl (d_loadS hS SmC_isS_26 rfl 2 rfl (cs := [.bool p.b1, .slice a1 p.t1.length ac1, .slice a2 p.q1.length ac2, .bool p.b2, .slice a3 p.t2.length ac3, .slice a4 p.q2.length ac4]) rfl rfl) ?_
 intro a hA
 refine seq_do hA rfl rfl rfl (d_loadS hS SmC_isS_26 rfl 1 rfl (cs := [.bool q.b1, .slice u1 q.t1.length uc1, .slice u2 q.q1.length uc2, .bool q.b2, .slice u3 q.t2.length uc3, .slice u4 q.q2.length uc4]) rfl rfl) ?_
 intro a hA
 refine seq_call hA rfl rfl rfl (enters_func  rfl rfl (fun w => by kernel_rfl)) (raddQ_as (show Nm _ p a1 ac1 a2 ac2 a3 ac3 a4 ac4 from ⟨⟨(hS.rd 11 rfl), ha.s1.nil, ha.s1.cap⟩, ⟨(hS.rd 10 rfl), ha.s2.nil, ha.s2.cap⟩, ⟨(hS.rd 9 rfl), ha.s3.nil, ha.s3.cap⟩, ⟨(hS.rd 8 rfl), ha.s4.nil, ha.s4.cap⟩⟩) hl (show Nm _ q u1 uc1 u2 uc2 u3 uc3 u4 uc4 from ⟨⟨(hS.rd 7 rfl), hb.s1.nil, hb.s1.cap⟩, ⟨(hS.rd 6 rfl), hb.s2.nil, hb.s2.cap⟩, ⟨(hS.rd 5 rfl), hb.s3.nil, hb.s3.cap⟩, ⟨(hS.rd 4 rfl), hb.s4.nil, hb.s4.cap⟩⟩) hm e1) ?_
 rintro _ w18 ⟨p15_1, p15_c1, p15_2, p15_c2, p15_3, p15_c3, p15_4, p15_c4, rfl, hn16, hb17⟩
 replace hS := hS.call hb17
 replace hS := hS.addR hn16.s1.rd
 replace hS := hS.addR hn16.s2.rd
 replace hS := hS.addR hn16.s3.rd
 replace hS := hS.addR hn16.s4.rd
 refine ⟨_, rfl, ?_⟩
 intro a hA
 refine seq_do hA rfl rfl rfl (d_move rfl) ?_
 intro a hA
 refine seq_do (v := .agg #[.bool z1.1.b1, .slice p15_1 z1.1.t1.length p15_c1, .slice p15_2 z1.1.q1.length p15_c2, .bool z1.1.b2, .slice p15_3 z1.1.t2.length p15_c3, .slice p15_4 z1.1.q2.length p15_c4]) hA rfl rfl rfl (d_extract (vs := [.agg #[.bool z1.1.b1, .slice p15_1 z1.1.t1.length p15_c1, .slice p15_2 z1.1.q1.length p15_c2, .bool z1.1.b2, .slice p15_3 z1.1.t2.length p15_c3, .slice p15_4 z1.1.q2.length p15_c4], .int .i64 z1.2]) rfl rfl) ?_
 intro a hA
 refine seq_do (v := .int .i64 z1.2) hA rfl rfl rfl (d_extract (vs := [.agg #[.bool z1.1.b1, .slice p15_1 z1.1.t1.length p15_c1, .slice p15_2 z1.1.q1.length p15_c2, .bool z1.1.b2, .slice p15_3 z1.1.t2.length p15_c3, .slice p15_4 z1.1.q2.length p15_c4], .int .i64 z1.2]) rfl rfl) ?_
 intro a hA
 refine seq_new (vs := [.bool false, .slice none 0 0, .slice none 0 0, .bool false, .slice none 0 0, .slice none 0 0]) (t := 26) hA hS rfl rfl rfl (fun g => .pointer (some ⟨g, 0, none⟩)) (d_alloc (z := .agg #[.bool false, .slice none 0 0, .slice none 0 0, .bool false, .slice none 0 0, .slice none 0 0]) (by kernel_rfl) rfl) rfl ?_
 intro g19 w20 hS a hA
 refine seq_store (us := [.bool z1.1.b1, .slice p15_1 z1.1.t1.length p15_c1, .slice p15_2 z1.1.q1.length p15_c2, .bool z1.1.b2, .slice p15_3 z1.1.t2.length p15_c3, .slice p15_4 z1.1.q2.length p15_c4]) hA hS rfl rfl (sets_store (cs := [.bool z1.1.b1, .slice p15_1 z1.1.t1.length p15_c1, .slice p15_2 z1.1.q1.length p15_c2, .bool z1.1.b2, .slice p15_3 z1.1.t2.length p15_c3, .slice p15_4 z1.1.q2.length p15_c4]) rfl rfl rfl (by kernel_rfl) hS 0 rfl rfl rfl) 0 rfl rfl rfl rfl ?_
 intro w21 hS
 refine seq_do hA rfl rfl rfl (d_assign rfl) ?_
 intro a hA
 refine seq_end ?_
 refine hK14 _ _ ?_
 refine wp_seq_k (fun K22 hK22 => ?_)
 refine wp_region_lit ?_
 refine seq_do hA rfl rfl rfl (d_loadS hS SmC_isS_26 rfl 3 rfl (cs := [.bool p.b1, .slice a1 p.t1.length ac1, .slice a2 p.q1.length ac2, .bool p.b2, .slice a3 p.t2.length ac3, .slice a4 p.q2.length ac4]) rfl rfl) ?_
 intro a hA
 refine seq_do hA rfl rfl rfl (d_loadS hS SmC_isS_26 rfl 2 rfl (cs := [.bool q.b1, .slice u1 q.t1.length uc1, .slice u2 q.q1.length uc2, .bool q.b2, .slice u3 q.t2.length uc3, .slice u4 q.q2.length uc4]) rfl rfl) ?_
 intro a hA
 refine seq_call hA rfl rfl rfl (enters_func  rfl rfl (fun w => by kernel_rfl)) (subQ_as (show Nm _ p a1 ac1 a2 ac2 a3 ac3 a4 ac4 from ⟨⟨(hS.rd 15 rfl), ha.s1.nil, ha.s1.cap⟩, ⟨(hS.rd 14 rfl), ha.s2.nil, ha.s2.cap⟩, ⟨(hS.rd 13 rfl), ha.s3.nil, ha.s3.cap⟩, ⟨(hS.rd 12 rfl), ha.s4.nil, ha.s4.cap⟩⟩) hl (show Nm _ q u1 uc1 u2 uc2 u3 uc3 u4 uc4 from ⟨⟨(hS.rd 11 rfl), hb.s1.nil, hb.s1.cap⟩, ⟨(hS.rd 10 rfl), hb.s2.nil, hb.s2.cap⟩, ⟨(hS.rd 9 rfl), hb.s3.nil, hb.s3.cap⟩, ⟨(hS.rd 8 rfl), hb.s4.nil, hb.s4.cap⟩⟩) hm e2) ?_
 rintro _ w26 ⟨p23_1, p23_c1, p23_2, p23_c2, p23_3, p23_c3, p23_4, p23_c4, rfl, hn24, hb25⟩
 replace hS := hS.call hb25
 replace hS := hS.addR hn24.s1.rd
 replace hS := hS.addR hn24.s2.rd
 replace hS := hS.addR hn24.s3.rd
 replace hS := hS.addR hn24.s4.rd
 refine ⟨_, rfl, ?_⟩
 intro a hA
 refine seq_do hA rfl rfl rfl (d_move rfl) ?_
 intro a hA
 refine seq_do (v := .agg #[.bool z2.1.b1, .slice p23_1 z2.1.t1.length p23_c1, .slice p23_2 z2.1.q1.length p23_c2, .bool z2.1.b2, .slice p23_3 z2.1.t2.length p23_c3, .slice p23_4 z2.1.q2.length p23_c4]) hA rfl rfl rfl (d_extract (vs := [.agg #[.bool z2.1.b1, .slice p23_1 z2.1.t1.length p23_c1, .slice p23_2 z2.1.q1.length p23_c2, .bool z2.1.b2, .slice p23_3 z2.1.t2.length p23_c3, .slice p23_4 z2.1.q2.length p23_c4], .int .i64 z2.2]) rfl rfl) ?_
 intro a hA
 refine seq_do (v := .int .i64 z2.2) hA rfl rfl rfl (d_extract (vs := [.agg #[.bool z2.1.b1, .slice p23_1 z2.1.t1.length p23_c1, .slice p23_2 z2.1.q1.length p23_c2, .bool z2.1.b2, .slice p23_3 z2.1.t2.length p23_c3, .slice p23_4 z2.1.q2.length p23_c4], .int .i64 z2.2]) rfl rfl) ?_
 intro a hA
 refine seq_new (vs := [.bool false, .slice none 0 0, .slice none 0 0, .bool false, .slice none 0 0, .slice none 0 0]) (t := 26) hA hS rfl rfl rfl (fun g => .pointer (some ⟨g, 0, none⟩)) (d_alloc (z := .agg #[.bool false, .slice none 0 0, .slice none 0 0, .bool false, .slice none 0 0, .slice none 0 0]) (by kernel_rfl) rfl) rfl ?_
 intro g27 w28 hS a hA
 refine seq_store (us := [.bool z2.1.b1, .slice p23_1 z2.1.t1.length p23_c1, .slice p23_2 z2.1.q1.length p23_c2, .bool z2.1.b2, .slice p23_3 z2.1.t2.length p23_c3, .slice p23_4 z2.1.q2.length p23_c4]) hA hS rfl rfl (sets_store (cs := [.bool z2.1.b1, .slice p23_1 z2.1.t1.length p23_c1, .slice p23_2 z2.1.q1.length p23_c2, .bool z2.1.b2, .slice p23_3 z2.1.t2.length p23_c3, .slice p23_4 z2.1.q2.length p23_c4]) rfl rfl rfl (by kernel_rfl) hS 0 rfl rfl rfl) 0 rfl rfl rfl rfl ?_
 intro w29 hS
 refine seq_do hA rfl rfl rfl (d_assign rfl) ?_
 intro a hA
 refine seq_end ?_
 refine hK22 _ _ ?_
 refine wp_seq_k (fun K30 hK30 => ?_)
 refine wp_region_lit ?_
 refine seq_do hA rfl rfl rfl (d_loadS hS SmC_isS_26 rfl 4 rfl (cs := [.bool p.b1, .slice a1 p.t1.length ac1, .slice a2 p.q1.length ac2, .bool p.b2, .slice a3 p.t2.length ac3, .slice a4 p.q2.length ac4]) rfl rfl) ?_
 intro a hA
 refine seq_do hA rfl rfl rfl (d_loadS hS SmC_isS_26 rfl 3 rfl (cs := [.bool q.b1, .slice u1 q.t1.length uc1, .slice u2 q.q1.length uc2, .bool q.b2, .slice u3 q.t2.length uc3, .slice u4 q.q2.length uc4]) rfl rfl) ?_
 intro a hA
 refine seq_call hA rfl rfl rfl (enters_func  rfl rfl (fun w => by kernel_rfl)) (rsubQ_as (show Nm _ p a1 ac1 a2 ac2 a3 ac3 a4 ac4 from ⟨⟨(hS.rd 19 rfl), ha.s1.nil, ha.s1.cap⟩, ⟨(hS.rd 18 rfl), ha.s2.nil, ha.s2.cap⟩, ⟨(hS.rd 17 rfl), ha.s3.nil, ha.s3.cap⟩, ⟨(hS.rd 16 rfl), ha.s4.nil, ha.s4.cap⟩⟩) hl (show Nm _ q u1 uc1 u2 uc2 u3 uc3 u4 uc4 from ⟨⟨(hS.rd 15 rfl), hb.s1.nil, hb.s1.cap⟩, ⟨(hS.rd 14 rfl), hb.s2.nil, hb.s2.cap⟩, ⟨(hS.rd 13 rfl), hb.s3.nil, hb.s3.cap⟩, ⟨(hS.rd 12 rfl), hb.s4.nil, hb.s4.cap⟩⟩) hm e2) ?_
 rintro _ w34 ⟨p31_1, p31_c1, p31_2, p31_c2, p31_3, p31_c3, p31_4, p31_c4, rfl, hn32, hb33⟩
 replace hS := hS.call hb33
 replace hS := hS.addR hn32.s1.rd
 replace hS := hS.addR hn32.s2.rd
 replace hS := hS.addR hn32.s3.rd
 replace hS := hS.addR hn32.s4.rd
 refine ⟨_, rfl, ?_⟩
 intro a hA
 refine seq_do hA rfl rfl rfl (d_move rfl) ?_
 intro a hA
 refine seq_do (v := .agg #[.bool z2.1.b1, .slice p31_1 z2.1.t1.length p31_c1, .slice p31_2 z2.1.q1.length p31_c2, .bool z2.1.b2, .slice p31_3 z2.1.t2.length p31_c3, .slice p31_4 z2.1.q2.length p31_c4]) hA rfl rfl rfl (d_extract (vs := [.agg #[.bool z2.1.b1, .slice p31_1 z2.1.t1.length p31_c1, .slice p31_2 z2.1.q1.length p31_c2, .bool z2.1.b2, .slice p31_3 z2.1.t2.length p31_c3, .slice p31_4 z2.1.q2.length p31_c4], .int .i64 z2.2]) rfl rfl) ?_
 intro a hA
 refine seq_do (v := .int .i64 z2.2) hA rfl rfl rfl (d_extract (vs := [.agg #[.bool z2.1.b1, .slice p31_1 z2.1.t1.length p31_c1, .slice p31_2 z2.1.q1.length p31_c2, .bool z2.1.b2, .slice p31_3 z2.1.t2.length p31_c3, .slice p31_4 z2.1.q2.length p31_c4], .int .i64 z2.2]) rfl rfl) ?_
 intro a hA
 refine seq_new (vs := [.bool false, .slice none 0 0, .slice none 0 0, .bool false, .slice none 0 0, .slice none 0 0]) (t := 26) hA hS rfl rfl rfl (fun g => .pointer (some ⟨g, 0, none⟩)) (d_alloc (z := .agg #[.bool false, .slice none 0 0, .slice none 0 0, .bool false, .slice none 0 0, .slice none 0 0]) (by kernel_rfl) rfl) rfl ?_
 intro g35 w36 hS a hA
 refine seq_store (us := [.bool z2.1.b1, .slice p31_1 z2.1.t1.length p31_c1, .slice p31_2 z2.1.q1.length p31_c2, .bool z2.1.b2, .slice p31_3 z2.1.t2.length p31_c3, .slice p31_4 z2.1.q2.length p31_c4]) hA hS rfl rfl (sets_store (cs := [.bool z2.1.b1, .slice p31_1 z2.1.t1.length p31_c1, .slice p31_2 z2.1.q1.length p31_c2, .bool z2.1.b2, .slice p31_3 z2.1.t2.length p31_c3, .slice p31_4 z2.1.q2.length p31_c4]) rfl rfl rfl (by kernel_rfl) hS 0 rfl rfl rfl) 0 rfl rfl rfl rfl ?_
 intro w37 hS
 refine seq_do hA rfl rfl rfl (d_assign rfl) ?_
 intro a hA
 refine seq_end ?_
 refine hK30 _ _ ?_
 refine wp_seq_k (fun K38 hK38 => ?_)
 refine wp_region_lit ?_
 refine seq_do hA rfl rfl rfl (d_loadS hS SmC_isS_26 rfl 5 rfl (cs := [.bool p.b1, .slice a1 p.t1.length ac1, .slice a2 p.q1.length ac2, .bool p.b2, .slice a3 p.t2.length ac3, .slice a4 p.q2.length ac4]) rfl rfl) ?_
 intro a hA
 refine seq_do hA rfl rfl rfl (d_loadS hS SmC_isS_26 rfl 4 rfl (cs := [.bool q.b1, .slice u1 q.t1.length uc1, .slice u2 q.q1.length uc2, .bool q.b2, .slice u3 q.t2.length uc3, .slice u4 q.q2.length uc4]) rfl rfl) ?_
 intro a hA
 refine seq_call hA rfl rfl rfl (enters_func  rfl rfl (fun w => by kernel_rfl)) (cmpQ_at (show Nm _ p a1 ac1 a2 ac2 a3 ac3 a4 ac4 from ⟨⟨(hS.rd 23 rfl), ha.s1.nil, ha.s1.cap⟩, ⟨(hS.rd 22 rfl), ha.s2.nil, ha.s2.cap⟩, ⟨(hS.rd 21 rfl), ha.s3.nil, ha.s3.cap⟩, ⟨(hS.rd 20 rfl), ha.s4.nil, ha.s4.cap⟩⟩) hl (show Nm _ q u1 uc1 u2 uc2 u3 uc3 u4 uc4 from ⟨⟨(hS.rd 19 rfl), hb.s1.nil, hb.s1.cap⟩, ⟨(hS.rd 18 rfl), hb.s2.nil, hb.s2.cap⟩, ⟨(hS.rd 17 rfl), hb.s3.nil, hb.s3.cap⟩, ⟨(hS.rd 16 rfl), hb.s4.nil, hb.s4.cap⟩⟩) hm ec) ?_
 rintro _ w40 ⟨rfl, hb39⟩
 replace hS := hS.call hb39
 refine ⟨_, rfl, ?_⟩
 intro a hA
 refine seq_do hA rfl rfl rfl (d_move rfl) ?_
 intro a hA
 refine seq_do (v := .int .i64 c1) hA rfl rfl rfl (d_extract (vs := [.int .i64 c1, .int .i64 c2]) rfl rfl) ?_
 intro a hA
 refine seq_do (v := .int .i64 c2) hA rfl rfl rfl (d_extract (vs := [.int .i64 c1, .int .i64 c2]) rfl rfl) ?_
 intro a hA
 refine seq_do hA rfl rfl rfl (d_assign rfl) ?_
 intro a hA
 refine seq_do hA rfl rfl rfl (d_assign rfl) ?_
 intro a hA
 refine seq_end ?_
 refine hK38 _ _ ?_
 refine wp_seq_k (fun K41 hK41 => ?_)
 refine wp_region_lit ?_
 refine seq_do hA rfl rfl rfl (d_loadS hS SmC_isS_26 rfl 5 rfl (cs := [.bool p.b1, .slice a1 p.t1.length ac1, .slice a2 p.q1.length ac2, .bool p.b2, .slice a3 p.t2.length ac3, .slice a4 p.q2.length ac4]) rfl rfl) ?_
 intro a hA
 refine seq_do hA rfl rfl rfl (d_loadS hS SmC_isS_26 rfl 4 rfl (cs := [.bool q.b1, .slice u1 q.t1.length uc1, .slice u2 q.q1.length uc2, .bool q.b2, .slice u3 q.t2.length uc3, .slice u4 q.q2.length uc4]) rfl rfl) ?_
 intro a hA
 refine seq_call hA rfl rfl rfl (enters_func  rfl rfl (fun w => by kernel_rfl)) (rcmpQ_at (show Nm _ p a1 ac1 a2 ac2 a3 ac3 a4 ac4 from ⟨⟨(hS.rd 23 rfl), ha.s1.nil, ha.s1.cap⟩, ⟨(hS.rd 22 rfl), ha.s2.nil, ha.s2.cap⟩, ⟨(hS.rd 21 rfl), ha.s3.nil, ha.s3.cap⟩, ⟨(hS.rd 20 rfl), ha.s4.nil, ha.s4.cap⟩⟩) hl (show Nm _ q u1 uc1 u2 uc2 u3 uc3 u4 uc4 from ⟨⟨(hS.rd 19 rfl), hb.s1.nil, hb.s1.cap⟩, ⟨(hS.rd 18 rfl), hb.s2.nil, hb.s2.cap⟩, ⟨(hS.rd 17 rfl), hb.s3.nil, hb.s3.cap⟩, ⟨(hS.rd 16 rfl), hb.s4.nil, hb.s4.cap⟩⟩) hm ec) ?_
 rintro _ w43 ⟨rfl, hb42⟩
 replace hS := hS.call hb42
 refine ⟨_, rfl, ?_⟩
 intro a hA
 refine seq_do hA rfl rfl rfl (d_move rfl) ?_
 intro a hA
 refine seq_do (v := .int .i64 c1) hA rfl rfl rfl (d_extract (vs := [.int .i64 c1, .int .i64 c2]) rfl rfl) ?_
 intro a hA
 refine seq_do (v := .int .i64 c2) hA rfl rfl rfl (d_extract (vs := [.int .i64 c1, .int .i64 c2]) rfl rfl) ?_
 intro a hA
 refine seq_do hA rfl rfl rfl (d_assign rfl) ?_
 intro a hA
 refine seq_do hA rfl rfl rfl (d_assign rfl) ?_
 intro a hA
 refine seq_end ?_
 refine hK41 _ _ ?_
 refine wp_seq_k (fun K44 hK44 => ?_)
 refine wp_region_lit ?_
 refine seq_do hA rfl rfl rfl (d_loadS hS SmC_isS_26 rfl 5 rfl (cs := [.bool p.b1, .slice a1 p.t1.length ac1, .slice a2 p.q1.length ac2, .bool p.b2, .slice a3 p.t2.length ac3, .slice a4 p.q2.length ac4]) rfl rfl) ?_
 intro a hA
 refine seq_call hA rfl rfl rfl (enters_func  rfl rfl (fun w => by kernel_rfl)) (smallQ_at (show Nm _ p a1 ac1 a2 ac2 a3 ac3 a4 ac4 from ⟨⟨(hS.rd 23 rfl), ha.s1.nil, ha.s1.cap⟩, ⟨(hS.rd 22 rfl), ha.s2.nil, ha.s2.cap⟩, ⟨(hS.rd 21 rfl), ha.s3.nil, ha.s3.cap⟩, ⟨(hS.rd 20 rfl), ha.s4.nil, ha.s4.cap⟩⟩) hl em) ?_
 rintro _ w46 ⟨rfl, hb45⟩
 replace hS := hS.call hb45
 refine ⟨_, rfl, ?_⟩
 intro a hA
 refine seq_do hA rfl rfl rfl (d_move rfl) ?_
 intro a hA
 refine seq_do (v := .int .i64 s1) hA rfl rfl rfl (d_extract (vs := [.int .i64 s1, .int .i64 s2]) rfl rfl) ?_
 intro a hA
 refine seq_do (v := .int .i64 s2) hA rfl rfl rfl (d_extract (vs := [.int .i64 s1, .int .i64 s2]) rfl rfl) ?_
 intro a hA
 refine seq_do hA rfl rfl rfl (d_assign rfl) ?_
 intro a hA
 refine seq_do hA rfl rfl rfl (d_assign rfl) ?_
 intro a hA
 refine seq_end ?_
 refine hK44 _ _ ?_
 refine wp_seq_k (fun K47 hK47 => ?_)
 refine wp_region_lit ?_
 refine seq_do hA rfl rfl rfl (d_loadS hS SmC_isS_26 rfl 5 rfl (cs := [.bool p.b1, .slice a1 p.t1.length ac1, .slice a2 p.q1.length ac2, .bool p.b2, .slice a3 p.t2.length ac3, .slice a4 p.q2.length ac4]) rfl rfl) ?_
 intro a hA
 refine seq_call hA rfl rfl rfl (enters_func  rfl rfl (fun w => by kernel_rfl)) (rsmallQ_at (show Nm _ p a1 ac1 a2 ac2 a3 ac3 a4 ac4 from ⟨⟨(hS.rd 23 rfl), ha.s1.nil, ha.s1.cap⟩, ⟨(hS.rd 22 rfl), ha.s2.nil, ha.s2.cap⟩, ⟨(hS.rd 21 rfl), ha.s3.nil, ha.s3.cap⟩, ⟨(hS.rd 20 rfl), ha.s4.nil, ha.s4.cap⟩⟩) hl em) ?_
 rintro _ w49 ⟨rfl, hb48⟩
 replace hS := hS.call hb48
 refine ⟨_, rfl, ?_⟩
 intro a hA
 refine seq_do hA rfl rfl rfl (d_move rfl) ?_
 intro a hA
 refine seq_do (v := .int .i64 s1) hA rfl rfl rfl (d_extract (vs := [.int .i64 s1, .int .i64 s2]) rfl rfl) ?_
 intro a hA
 refine seq_do (v := .int .i64 s2) hA rfl rfl rfl (d_extract (vs := [.int .i64 s1, .int .i64 s2]) rfl rfl) ?_
 intro a hA
 refine seq_do hA rfl rfl rfl (d_assign rfl) ?_
 intro a hA
 refine seq_do hA rfl rfl rfl (d_assign rfl) ?_
 intro a hA
 refine seq_end ?_
 refine hK47 _ _ ?_
 refine wp_seq_k (fun K50 hK50 => ?_)
 refine wp_draw (S := fun w1 => St w w1 [(g35, [.bool z2.1.b1, .slice p31_1 z2.1.t1.length p31_c1, .slice p31_2 z2.1.q1.length p31_c2, .bool z2.1.b2, .slice p31_3 z2.1.t2.length p31_c3, .slice p31_4 z2.1.q2.length p31_c4]), (g27, [.bool z2.1.b1, .slice p23_1 z2.1.t1.length p23_c1, .slice p23_2 z2.1.q1.length p23_c2, .bool z2.1.b2, .slice p23_3 z2.1.t2.length p23_c3, .slice p23_4 z2.1.q2.length p23_c4]), (g19, [.bool z1.1.b1, .slice p15_1 z1.1.t1.length p15_c1, .slice p15_2 z1.1.q1.length p15_c2, .bool z1.1.b2, .slice p15_3 z1.1.t2.length p15_c3, .slice p15_4 z1.1.q2.length p15_c4]), (g11, [.bool z1.1.b1, .slice p7_1 z1.1.t1.length p7_c1, .slice p7_2 z1.1.q1.length p7_c2, .bool z1.1.b2, .slice p7_3 z1.1.t2.length p7_c3, .slice p7_4 z1.1.q2.length p7_c4]), (g4, [.bool q.b1, .slice u1 q.t1.length uc1, .slice u2 q.q1.length uc2, .bool q.b2, .slice u3 q.t2.length uc3, .slice u4 q.q2.length uc4]), (g2, [.bool p.b1, .slice a1 p.t1.length ac1, .slice a2 p.q1.length ac2, .bool p.b2, .slice a3 p.t2.length ac3, .slice a4 p.q2.length ac4])] [(p31_4, z2.1.q2), (p31_3, z2.1.t2), (p31_2, z2.1.q1), (p31_1, z2.1.t1), (p23_4, z2.1.q2), (p23_3, z2.1.t2), (p23_2, z2.1.q1), (p23_1, z2.1.t1), (p15_4, z1.1.q2), (p15_3, z1.1.t2), (p15_2, z1.1.q1), (p15_1, z1.1.t1), (p7_4, z1.1.q2), (p7_3, z1.1.t2), (p7_2, z1.1.q1), (p7_1, z1.1.t1), (u4, q.q2), (u3, q.t2), (u2, q.q1), (u1, q.t1), (a4, p.q2), (a3, p.t2), (a2, p.q1), (a1, p.t1)] []) (by kernel_rfl) ?_
 replace hS := hS.drew
 refine any_one (by kernel_rfl) (op_call hA 0 rfl rfl rfl rfl (enters_func  rfl rfl (fun w => by kernel_rfl)) (awake3_any) ?_)
 rintro _ w52 ⟨rfl, hb51⟩
 replace hS := hS.call hb51
 refine ⟨_, rfl, hS, ?_⟩
 intro a hA
 refine any_tk hA 1 rfl rfl rfl rfl hP hS (fun w1 hS => d_move rfl) ?_
 intro a hA
 refine any_tk hA 2 rfl rfl rfl rfl hP hS (fun w1 hS => d_loadS hS SmC_isS_26 rfl 3 rfl (cs := [.bool z1.1.b1, .slice p7_1 z1.1.t1.length p7_c1, .slice p7_2 z1.1.q1.length p7_c2, .bool z1.1.b2, .slice p7_3 z1.1.t2.length p7_c3, .slice p7_4 z1.1.q2.length p7_c4]) rfl rfl) ?_
 intro a hA
 refine any_tk hA 3 rfl rfl rfl rfl hP hS (fun w1 hS => d_loadS hS SmC_isS_26 rfl 2 rfl (cs := [.bool z1.1.b1, .slice p15_1 z1.1.t1.length p15_c1, .slice p15_2 z1.1.q1.length p15_c2, .bool z1.1.b2, .slice p15_3 z1.1.t2.length p15_c3, .slice p15_4 z1.1.q2.length p15_c4]) rfl rfl) ?_
 intro a hA
 refine any_one (by kernel_rfl) (op_call hA 4 rfl rfl rfl rfl (enters_func  rfl rfl (fun w => by kernel_rfl)) (alike_any (show Nm _ z1.1 p7_1 p7_c1 p7_2 p7_c2 p7_3 p7_c3 p7_4 p7_c4 from ⟨⟨(hS.rd 15 rfl), hn8.s1.nil, hn8.s1.cap⟩, ⟨(hS.rd 14 rfl), hn8.s2.nil, hn8.s2.cap⟩, ⟨(hS.rd 13 rfl), hn8.s3.nil, hn8.s3.cap⟩, ⟨(hS.rd 12 rfl), hn8.s4.nil, hn8.s4.cap⟩⟩) l1 ⟨⟨(hS.rd 11 rfl), hn16.s1.nil, hn16.s1.cap⟩, ⟨(hS.rd 10 rfl), hn16.s2.nil, hn16.s2.cap⟩, ⟨(hS.rd 9 rfl), hn16.s3.nil, hn16.s3.cap⟩, ⟨(hS.rd 8 rfl), hn16.s4.nil, hn16.s4.cap⟩⟩) ?_)
 rintro _ w54 ⟨rfl, hb53⟩
 replace hS := hS.call hb53
 refine ⟨_, rfl, hS, ?_⟩
 intro a hA
 refine any_tk (v := .bool true) hA 5 rfl rfl rfl rfl hP hS (fun w1 hS => d_pick rfl rfl rfl rfl) ?_
 intro a hA
 refine any_tk hA 6 rfl rfl rfl rfl hP hS (fun w1 hS => d_move rfl) ?_
 intro a hA
 refine any_tk hA 7 rfl rfl rfl rfl hP hS (fun w1 hS => d_move rfl) ?_
 intro a hA
 refine any_tk hA 8 rfl rfl rfl rfl hP hS (fun w1 hS => d_move rfl) ?_
 intro a hA
 refine any_tk (v := .bool true) hA 9 rfl rfl rfl rfl hP hS (fun w1 hS => d_bin rfl rfl (fun w => (bin_eql w).trans (by rw [show ((z1.2 == z1.2)) = true from (beq_self_eq_true _)]))) ?_
 intro a hA
 refine any_tk (v := .bool true) hA 10 rfl rfl rfl rfl hP hS (fun w1 hS => d_pick rfl rfl rfl rfl) ?_
 intro a hA
 refine any_tk hA 11 rfl rfl rfl rfl hP hS (fun w1 hS => d_move rfl) ?_
 intro a hA
 refine any_tk hA 12 rfl rfl rfl rfl hP hS (fun w1 hS => d_loadS hS SmC_isS_26 rfl 1 rfl (cs := [.bool z2.1.b1, .slice p23_1 z2.1.t1.length p23_c1, .slice p23_2 z2.1.q1.length p23_c2, .bool z2.1.b2, .slice p23_3 z2.1.t2.length p23_c3, .slice p23_4 z2.1.q2.length p23_c4]) rfl rfl) ?_
 intro a hA
 refine any_tk hA 13 rfl rfl rfl rfl hP hS (fun w1 hS => d_loadS hS SmC_isS_26 rfl 0 rfl (cs := [.bool z2.1.b1, .slice p31_1 z2.1.t1.length p31_c1, .slice p31_2 z2.1.q1.length p31_c2, .bool z2.1.b2, .slice p31_3 z2.1.t2.length p31_c3, .slice p31_4 z2.1.q2.length p31_c4]) rfl rfl) ?_
 intro a hA
 refine any_one (by kernel_rfl) (op_call hA 14 rfl rfl rfl rfl (enters_func  rfl rfl (fun w => by kernel_rfl)) (alike_any (show Nm _ z2.1 p23_1 p23_c1 p23_2 p23_c2 p23_3 p23_c3 p23_4 p23_c4 from ⟨⟨(hS.rd 7 rfl), hn24.s1.nil, hn24.s1.cap⟩, ⟨(hS.rd 6 rfl), hn24.s2.nil, hn24.s2.cap⟩, ⟨(hS.rd 5 rfl), hn24.s3.nil, hn24.s3.cap⟩, ⟨(hS.rd 4 rfl), hn24.s4.nil, hn24.s4.cap⟩⟩) l2 ⟨⟨(hS.rd 3 rfl), hn32.s1.nil, hn32.s1.cap⟩, ⟨(hS.rd 2 rfl), hn32.s2.nil, hn32.s2.cap⟩, ⟨(hS.rd 1 rfl), hn32.s3.nil, hn32.s3.cap⟩, ⟨(hS.rd 0 rfl), hn32.s4.nil, hn32.s4.cap⟩⟩) ?_)
 rintro _ w56 ⟨rfl, hb55⟩
 replace hS := hS.call hb55
 refine ⟨_, rfl, hS, ?_⟩
 intro a hA
 refine any_tk (v := .bool true) hA 15 rfl rfl rfl rfl hP hS (fun w1 hS => d_pick rfl rfl rfl rfl) ?_
 intro a hA
 refine any_tk hA 16 rfl rfl rfl rfl hP hS (fun w1 hS => d_move rfl) ?_
 intro a hA
 refine any_tk hA 17 rfl rfl rfl rfl hP hS (fun w1 hS => d_move rfl) ?_
 intro a hA
 refine any_tk hA 18 rfl rfl rfl rfl hP hS (fun w1 hS => d_move rfl) ?_
 intro a hA
 refine any_tk (v := .bool true) hA 19 rfl rfl rfl rfl hP hS (fun w1 hS => d_bin rfl rfl (fun w => (bin_eql w).trans (by rw [show ((z2.2 == z2.2)) = true from (beq_self_eq_true _)]))) ?_
 intro a hA
 refine any_tk (v := .bool true) hA 20 rfl rfl rfl rfl hP hS (fun w1 hS => d_pick rfl rfl rfl rfl) ?_
 intro a hA
 refine any_tk hA 21 rfl rfl rfl rfl hP hS (fun w1 hS => d_move rfl) ?_
 intro a hA
 refine any_tk hA 22 rfl rfl rfl rfl hP hS (fun w1 hS => d_move rfl) ?_
 intro a hA
 refine any_tk hA 23 rfl rfl rfl rfl hP hS (fun w1 hS => d_move rfl) ?_
 intro a hA
 refine any_tk (v := .bool true) hA 24 rfl rfl rfl rfl hP hS (fun w1 hS => d_bin rfl rfl (fun w => (bin_eql w).trans (by rw [show ((c1 == c1)) = true from (beq_self_eq_true _)]))) ?_
 intro a hA
 refine any_tk (v := .bool true) hA 25 rfl rfl rfl rfl hP hS (fun w1 hS => d_pick rfl rfl rfl rfl) ?_
 intro a hA
 refine any_tk hA 26 rfl rfl rfl rfl hP hS (fun w1 hS => d_move rfl) ?_
 intro a hA
 refine any_tk hA 27 rfl rfl rfl rfl hP hS (fun w1 hS => d_move rfl) ?_
 intro a hA
 refine any_tk hA 28 rfl rfl rfl rfl hP hS (fun w1 hS => d_move rfl) ?_
 intro a hA
 refine any_tk (v := .bool true) hA 29 rfl rfl rfl rfl hP hS (fun w1 hS => d_bin rfl rfl (fun w => (bin_eql w).trans (by rw [show ((c2 == c2)) = true from (beq_self_eq_true _)]))) ?_
 intro a hA
 refine any_tk (v := .bool true) hA 30 rfl rfl rfl rfl hP hS (fun w1 hS => d_pick rfl rfl rfl rfl) ?_
 intro a hA
 refine any_tk hA 31 rfl rfl rfl rfl hP hS (fun w1 hS => d_move rfl) ?_
 intro a hA
 refine any_tk hA 32 rfl rfl rfl rfl hP hS (fun w1 hS => d_move rfl) ?_
 intro a hA
 refine any_tk hA 33 rfl rfl rfl rfl hP hS (fun w1 hS => d_move rfl) ?_
 intro a hA
 refine any_tk (v := .bool true) hA 34 rfl rfl rfl rfl hP hS (fun w1 hS => d_bin rfl rfl (fun w => (bin_eql w).trans (by rw [show ((s1 == s1)) = true from (beq_self_eq_true _)]))) ?_
 intro a hA
 refine any_tk (v := .bool true) hA 35 rfl rfl rfl rfl hP hS (fun w1 hS => d_pick rfl rfl rfl rfl) ?_
 intro a hA
 refine any_tk hA 36 rfl rfl rfl rfl hP hS (fun w1 hS => d_move rfl) ?_
 intro a hA
 refine any_tk hA 37 rfl rfl rfl rfl hP hS (fun w1 hS => d_move rfl) ?_
 intro a hA
 refine any_tk hA 38 rfl rfl rfl rfl hP hS (fun w1 hS => d_move rfl) ?_
 intro a hA
 refine any_tk (v := .bool true) hA 39 rfl rfl rfl rfl hP hS (fun w1 hS => d_bin rfl rfl (fun w => (bin_eql w).trans (by rw [show ((s2 == s2)) = true from (beq_self_eq_true _)]))) ?_
 intro a hA
 refine any_tk (v := .bool true) hA 40 rfl rfl rfl rfl hP hS (fun w1 hS => d_pick rfl rfl rfl rfl) ?_
 intro a hA
 refine any_tk hA 41 rfl rfl rfl rfl hP hS (fun w1 hS => d_move rfl) ?_
 intro a hA
 refine any_tk hA 42 rfl rfl rfl rfl hP hS (fun w1 hS => d_loadS hS SmC_isS_26 rfl 5 rfl (cs := [.bool p.b1, .slice a1 p.t1.length ac1, .slice a2 p.q1.length ac2, .bool p.b2, .slice a3 p.t2.length ac3, .slice a4 p.q2.length ac4]) rfl rfl) ?_
 intro a hA
 refine any_tk hA 43 rfl rfl rfl rfl hP hS (fun w1 hS => d_loadS hS SmC_isS_26 rfl 4 rfl (cs := [.bool q.b1, .slice u1 q.t1.length uc1, .slice u2 q.q1.length uc2, .bool q.b2, .slice u3 q.t2.length uc3, .slice u4 q.q2.length uc4]) rfl rfl) ?_
 intro a hA
 refine any_tk hA 45 rfl rfl rfl rfl hP hS (fun w1 hS => d_loadS hS SmC_isS_26 rfl 5 rfl (cs := [.bool p.b1, .slice a1 p.t1.length ac1, .slice a2 p.q1.length ac2, .bool p.b2, .slice a3 p.t2.length ac3, .slice a4 p.q2.length ac4]) rfl rfl) ?_
 intro a hA
 refine any_tk hA 46 rfl rfl rfl rfl hP hS (fun w1 hS => d_loadS hS SmC_isS_26 rfl 4 rfl (cs := [.bool q.b1, .slice u1 q.t1.length uc1, .slice u2 q.q1.length uc2, .bool q.b2, .slice u3 q.t2.length uc3, .slice u4 q.q2.length uc4]) rfl rfl) ?_
 intro a hA
 refine any_one (by kernel_rfl) (op_call hA 44 rfl rfl rfl rfl (enters_func  rfl rfl (fun w => by kernel_rfl)) (sameQ_any (show Nm _ p a1 ac1 a2 ac2 a3 ac3 a4 ac4 from ⟨⟨(hS.rd 23 rfl), ha.s1.nil, ha.s1.cap⟩, ⟨(hS.rd 22 rfl), ha.s2.nil, ha.s2.cap⟩, ⟨(hS.rd 21 rfl), ha.s3.nil, ha.s3.cap⟩, ⟨(hS.rd 20 rfl), ha.s4.nil, ha.s4.cap⟩⟩) hl (show Nm _ q u1 uc1 u2 uc2 u3 uc3 u4 uc4 from ⟨⟨(hS.rd 19 rfl), hb.s1.nil, hb.s1.cap⟩, ⟨(hS.rd 18 rfl), hb.s2.nil, hb.s2.cap⟩, ⟨(hS.rd 17 rfl), hb.s3.nil, hb.s3.cap⟩, ⟨(hS.rd 16 rfl), hb.s4.nil, hb.s4.cap⟩⟩) hm es) ?_)
 rintro _ w58 ⟨rfl, hb57⟩
 replace hS := hS.call hb57
 refine ⟨_, rfl, hS, ?_⟩
 intro a hA
 refine any_one (by kernel_rfl) (op_call hA 47 rfl rfl rfl rfl (enters_func  rfl rfl (fun w => by kernel_rfl)) (rsameQ_any (show Nm _ p a1 ac1 a2 ac2 a3 ac3 a4 ac4 from ⟨⟨(hS.rd 23 rfl), ha.s1.nil, ha.s1.cap⟩, ⟨(hS.rd 22 rfl), ha.s2.nil, ha.s2.cap⟩, ⟨(hS.rd 21 rfl), ha.s3.nil, ha.s3.cap⟩, ⟨(hS.rd 20 rfl), ha.s4.nil, ha.s4.cap⟩⟩) hl (show Nm _ q u1 uc1 u2 uc2 u3 uc3 u4 uc4 from ⟨⟨(hS.rd 19 rfl), hb.s1.nil, hb.s1.cap⟩, ⟨(hS.rd 18 rfl), hb.s2.nil, hb.s2.cap⟩, ⟨(hS.rd 17 rfl), hb.s3.nil, hb.s3.cap⟩, ⟨(hS.rd 16 rfl), hb.s4.nil, hb.s4.cap⟩⟩) hm es) ?_)
 rintro _ w60 ⟨rfl, hb59⟩
 replace hS := hS.call hb59
 refine ⟨_, rfl, hS, ?_⟩
 intro a hA
 refine any_tk (v := .bool true) hA 48 rfl rfl rfl rfl hP hS (fun w1 hS => d_bin rfl rfl (fun w => ((bin_eqlB Tryz.underlying4) w).trans (by rw [show ((bs == bs)) = true from (beq_self_eq_true _)]))) ?_
 intro a hA
 refine any_tk (v := .bool true) hA 49 rfl rfl rfl rfl hP hS (fun w1 hS => d_pick rfl rfl rfl rfl) ?_
 intro a hA
 refine any_tk hA 50 rfl rfl rfl rfl hP hS (fun w1 hS => d_move rfl) ?_
 intro a hA
 refine any_tk hA 51 rfl rfl rfl rfl hP hS (fun w1 hS => d_loadS hS SmC_isS_26 rfl 5 rfl (cs := [.bool p.b1, .slice a1 p.t1.length ac1, .slice a2 p.q1.length ac2, .bool p.b2, .slice a3 p.t2.length ac3, .slice a4 p.q2.length ac4]) rfl rfl) ?_
 intro a hA
 refine any_tk hA 53 rfl rfl rfl rfl hP hS (fun w1 hS => d_loadS hS SmC_isS_26 rfl 5 rfl (cs := [.bool p.b1, .slice a1 p.t1.length ac1, .slice a2 p.q1.length ac2, .bool p.b2, .slice a3 p.t2.length ac3, .slice a4 p.q2.length ac4]) rfl rfl) ?_
 intro a hA
 refine any_one (by kernel_rfl) (op_call hA 52 rfl rfl rfl rfl (enters_func  rfl rfl (fun w => by kernel_rfl)) (soundQ_any (show Nm _ p a1 ac1 a2 ac2 a3 ac3 a4 ac4 from ⟨⟨(hS.rd 23 rfl), ha.s1.nil, ha.s1.cap⟩, ⟨(hS.rd 22 rfl), ha.s2.nil, ha.s2.cap⟩, ⟨(hS.rd 21 rfl), ha.s3.nil, ha.s3.cap⟩, ⟨(hS.rd 20 rfl), ha.s4.nil, ha.s4.cap⟩⟩) hl eo) ?_)
 rintro _ w62 ⟨rfl, hb61⟩
 replace hS := hS.call hb61
 refine ⟨_, rfl, hS, ?_⟩
 intro a hA
 refine any_one (by kernel_rfl) (op_call hA 54 rfl rfl rfl rfl (enters_func  rfl rfl (fun w => by kernel_rfl)) (rsoundQ_any (show Nm _ p a1 ac1 a2 ac2 a3 ac3 a4 ac4 from ⟨⟨(hS.rd 23 rfl), ha.s1.nil, ha.s1.cap⟩, ⟨(hS.rd 22 rfl), ha.s2.nil, ha.s2.cap⟩, ⟨(hS.rd 21 rfl), ha.s3.nil, ha.s3.cap⟩, ⟨(hS.rd 20 rfl), ha.s4.nil, ha.s4.cap⟩⟩) hl eo) ?_)
 rintro _ w64 ⟨rfl, hb63⟩
 replace hS := hS.call hb63
 refine ⟨_, rfl, hS, ?_⟩
 intro a hA
 refine any_tk (v := .bool true) hA 55 rfl rfl rfl rfl hP hS (fun w1 hS => d_bin rfl rfl (fun w => ((bin_eqlB Tryz.underlying4) w).trans (by rw [show ((bo == bo)) = true from (beq_self_eq_true _)]))) ?_
 intro a hA
 refine any_tk (v := .bool true) hA 56 rfl rfl rfl rfl hP hS (fun w1 hS => d_pick rfl rfl rfl rfl) ?_
 intro a hA
 refine any_tk hA 57 rfl rfl rfl rfl hP hS (fun w1 hS => d_move rfl) ?_
 intro a hA
 refine any_tk hA 58 rfl rfl rfl rfl hP hS (fun w1 hS => d_loadS hS SmC_isS_26 rfl 5 rfl (cs := [.bool p.b1, .slice a1 p.t1.length ac1, .slice a2 p.q1.length ac2, .bool p.b2, .slice a3 p.t2.length ac3, .slice a4 p.q2.length ac4]) rfl rfl) ?_
 intro a hA
 refine any_tk hA 60 rfl rfl rfl rfl hP hS (fun w1 hS => d_loadS hS SmC_isS_26 rfl 5 rfl (cs := [.bool p.b1, .slice a1 p.t1.length ac1, .slice a2 p.q1.length ac2, .bool p.b2, .slice a3 p.t2.length ac3, .slice a4 p.q2.length ac4]) rfl rfl) ?_
 intro a hA
 refine any_one (by kernel_rfl) (op_call hA 59 rfl rfl rfl rfl (enters_func  rfl rfl (fun w => by kernel_rfl)) (wholeQ_any (show Nm _ p a1 ac1 a2 ac2 a3 ac3 a4 ac4 from ⟨⟨(hS.rd 23 rfl), ha.s1.nil, ha.s1.cap⟩, ⟨(hS.rd 22 rfl), ha.s2.nil, ha.s2.cap⟩, ⟨(hS.rd 21 rfl), ha.s3.nil, ha.s3.cap⟩, ⟨(hS.rd 20 rfl), ha.s4.nil, ha.s4.cap⟩⟩) hl ew) ?_)
 rintro _ w66 ⟨rfl, hb65⟩
 replace hS := hS.call hb65
 refine ⟨_, rfl, hS, ?_⟩
 intro a hA
 refine any_one (by kernel_rfl) (op_call hA 61 rfl rfl rfl rfl (enters_func  rfl rfl (fun w => by kernel_rfl)) (rwholeQ_any (show Nm _ p a1 ac1 a2 ac2 a3 ac3 a4 ac4 from ⟨⟨(hS.rd 23 rfl), ha.s1.nil, ha.s1.cap⟩, ⟨(hS.rd 22 rfl), ha.s2.nil, ha.s2.cap⟩, ⟨(hS.rd 21 rfl), ha.s3.nil, ha.s3.cap⟩, ⟨(hS.rd 20 rfl), ha.s4.nil, ha.s4.cap⟩⟩) hl ew) ?_)
 rintro _ w68 ⟨rfl, hb67⟩
 replace hS := hS.call hb67
 refine ⟨_, rfl, hS, ?_⟩
 intro a hA
 refine any_tk (v := .bool true) hA 62 rfl rfl rfl rfl hP hS (fun w1 hS => d_bin rfl rfl (fun w => ((bin_eqlB Tryz.underlying4) w).trans (by rw [show ((bw == bw)) = true from (beq_self_eq_true _)]))) ?_
 intro a hA
 refine any_tk (v := .bool true) hA 63 rfl rfl rfl rfl hP hS (fun w1 hS => d_pick rfl rfl rfl rfl) ?_
 intro a hA
 refine any_tk hA 64 rfl rfl rfl rfl hP hS (fun w1 hS => d_move rfl) ?_
 intro a hA
 refine any_tk hA 65 rfl rfl rfl rfl hP hS (fun w1 hS => d_move rfl) ?_
 intro a hA
 refine any_tk hA 67 rfl rfl rfl rfl hP hS (fun w1 hS => d_move rfl) ?_
 intro a hA
 refine any_one (by kernel_rfl) (op_call hA 66 rfl rfl rfl rfl (enters_func  rfl rfl (fun w => by kernel_rfl)) (intQ_as h0 h1 ei) ?_)
 rintro _ w72 ⟨p69_1, p69_c1, p69_2, p69_c2, p69_3, p69_c3, p69_4, p69_c4, rfl, hn70, hb71⟩
 replace hS := hS.call hb71
 replace hS := hS.addR hn70.s1.rd
 replace hS := hS.addR hn70.s2.rd
 replace hS := hS.addR hn70.s3.rd
 replace hS := hS.addR hn70.s4.rd
 refine ⟨_, rfl, (hS.partD (.refl _) 4 rfl (.refl _)), ?_⟩
 intro a hA
 refine any_one (by kernel_rfl) (op_call hA 68 rfl rfl rfl rfl (enters_func  rfl rfl (fun w => by kernel_rfl)) (rintQ_as h0 h1 ei) ?_)
 rintro _ w76 ⟨p73_1, p73_c1, p73_2, p73_c2, p73_3, p73_c3, p73_4, p73_c4, rfl, hn74, hb75⟩
 replace hS := hS.call hb75
 replace hS := hS.addR hn74.s1.rd
 replace hS := hS.addR hn74.s2.rd
 replace hS := hS.addR hn74.s3.rd
 replace hS := hS.addR hn74.s4.rd
 refine ⟨_, rfl, (hS.partD (.refl _) 8 rfl (.refl _)), ?_⟩
 intro a hA
 refine any_one (by kernel_rfl) (op_call hA 69 rfl rfl rfl rfl (enters_func  rfl rfl (fun w => by kernel_rfl)) (alike_any (show Nm _ zi p69_1 p69_c1 p69_2 p69_c2 p69_3 p69_c3 p69_4 p69_c4 from ⟨⟨(hS.rd 7 rfl), hn70.s1.nil, hn70.s1.cap⟩, ⟨(hS.rd 6 rfl), hn70.s2.nil, hn70.s2.cap⟩, ⟨(hS.rd 5 rfl), hn70.s3.nil, hn70.s3.cap⟩, ⟨(hS.rd 4 rfl), hn70.s4.nil, hn70.s4.cap⟩⟩) li ⟨⟨(hS.rd 3 rfl), hn74.s1.nil, hn74.s1.cap⟩, ⟨(hS.rd 2 rfl), hn74.s2.nil, hn74.s2.cap⟩, ⟨(hS.rd 1 rfl), hn74.s3.nil, hn74.s3.cap⟩, ⟨(hS.rd 0 rfl), hn74.s4.nil, hn74.s4.cap⟩⟩) ?_)
 rintro _ w78 ⟨rfl, hb77⟩
 replace hS := hS.call hb77
 refine ⟨_, rfl, (hS.partD (.refl _) 8 rfl (.refl _)), ?_⟩
 intro a hA
 refine any_tk (v := .bool true) hA 70 rfl rfl rfl rfl hP (hS.partD (.refl _) 8 rfl (.refl _)) (fun w1 hS => d_pick rfl rfl rfl rfl) ?_
 intro a hA
 refine any_tk hA 71 rfl rfl rfl rfl hP (hS.partD (.refl _) 8 rfl (.refl _)) (fun w1 hS => d_assign rfl) ?_
 intro a hA
 refine any_end (by kernel_rfl) ?_
 refine hK50 _ _ ?_
 refine wp_ret ?_
 refine hret _ _ ?_
 refine ends (v := .bool true) hA rfl (.cons (res_tmp rfl) .nil) rfl ?_
 exact ⟨rfl, hS.bel⟩
theorem exactSums_any {w : World} {p q : Q6} {a1 a2 a3 a4 : Option Addr} {ac1 ac2 ac3 ac4 : Nat} (ha : Nm w p a1 ac1 a2 ac2 a3 ac3 a4 ac4) (hl : LenQ p) {u1 u2 u3 u4 : Option Addr} {uc1 uc2 uc3 uc4 : Nat} (hb : Nm w q u1 uc1 u2 uc2 u3 uc3 u4 uc4) (hm : LenQ q) {n : Int} (h0 : -9223372036854775808 ≤ n) (h1 : n ≤ 9223372036854775807) : Calls Tryz.prog 3 #[numV p a1 ac1 a2 ac2 a3 ac3 a4 ac4, numV q u1 uc1 u2 uc2 u3 uc3 u4 uc4, .int .i64 n] w fun e w' => e = .returned (.bool true) ∧ Below w.heap.size w w' := sumsW_any ha hl hb hm h0 h1 rfl (lenQ_add _ _) rfl (lenQ_sub _ _) rfl rfl rfl rfl rfl rfl (lenQ_int h0 h1)
end Go.Proofs.YthlkbnhbmfmchaaGreat
namespace Go.Proofs.YthlkbnhbmfmchaaGreat
open Go.ChangeShapes Go.WideShapes Go.ChangeAt Go.RowKit Go.Joins Go.Deep
set_option linter.unusedVariables false
set_option linter.unusedSimpArgs false
set_option maxRecDepth 100000

section
variable {H : Type} {enc : TypeId × Value → H} {W : World}
theorem trod_bool {fuel : Nat} {v : Value} {x : DataW H × List MemPlace} (h : DataW.trod enc Tryz.prog W 0 (fun _ => true) true fuel 4 [v] = some x) : ∃ b, v = .bool b := by
  obtain ⟨b, h, _⟩ := DataW.trod_bool Tryz.underlying4 h
  exact ⟨b, by simpa using h⟩
theorem trod_words {fuel : Nat} {v : Value} {x : DataW H × List MemPlace} (h : DataW.trod enc Tryz.prog W 0 (fun _ => true) true fuel 22 [v] = some x) : ∃ ao c l, v = .slice ao l.length c ∧ Arg W ao c l := by
  rcases open_ints Tryz.underlying22 Tryz.underlying66 (by kernel_rfl) h with ⟨hcs, _⟩ | ⟨x, l, c, zs, hcs, _, hl, hm, hz, hx, hcell, hwz⟩
  · cases hcs
    exact ⟨none, 0, [], rfl, arg_nil W⟩
  · cases hcs
    obtain ⟨us, e, ha⟩ := arg_row hl hm (by simpa using hz) hcell hwz
    subst e
    exact ⟨_, _, us, rfl, ha⟩
theorem trod_rat {fuel : Nat} {v0 v1 v2 : Value} {x : DataW H × List MemPlace} (h : DataW.trod enc Tryz.prog W 0 (fun _ => true) true fuel 24 [v0, v1, v2] = some x) : ∃ b o1 c1 l1 o2 c2 l2, v0 = .bool b ∧ v1 = .slice o1 l1.length c1 ∧ v2 = .slice o2 l2.length c2 ∧ Arg W o1 c1 l1 ∧ Arg W o2 c2 l2 := by
  obtain ⟨y0, y1, y2, n, _, _, h0, h1, h2⟩ := trod_struct3 Tryz.underlying24 h
  have e0 : Tryz.prog.cellsOf 4 = 1 := by kernel_rfl
  have e1 : Tryz.prog.cellsOf 22 = 1 := by kernel_rfl
  simp only [e0, e1, List.drop_zero, List.take_succ_cons, List.take_zero, List.drop_succ_cons] at h0 h1 h2
  obtain ⟨b, rfl⟩ := trod_bool h0
  obtain ⟨o1, c1, l1, rfl, a1⟩ := trod_words h1
  obtain ⟨o2, c2, l2, rfl, a2⟩ := trod_words h2
  exact ⟨b, o1, c1, l1, o2, c2, l2, rfl, rfl, rfl, a1, a2⟩
theorem open_num {base : Nat} {v : Value} {d : DataW H} {p : List MemPlace} (hv : Value.okWide Tryz.prog W .any base 26 v) (h : DataW.Trod enc Tryz.prog W 0 (fun _ => true) true 26 v d p) :
    ∃ q o1 c1 o2 c2 o3 c3 o4 c4, v = numV q o1 c1 o2 c2 o3 c3 o4 c4 ∧ Nm W q o1 c1 o2 c2 o3 c3 o4 c4 ∧ LenQ q := by
  obtain ⟨cs, rfl, hsz⟩ := okWide_struct Tryz.underlying26 hv
  rw [show Tryz.prog.cellsOf 26 = 6 from by kernel_rfl] at hsz
  obtain ⟨cs⟩ := cs
  match cs, hsz with
  | [v0, v1, v2, v3, v4, v5], _ =>
    obtain ⟨fuel, hf⟩ := h
    obtain ⟨y0, y1, n, _, _, h0, h1⟩ := trod_struct2 Tryz.underlying26 hf
    have e : Tryz.prog.cellsOf 24 = 3 := by kernel_rfl
    simp only [Value.cells, e, List.drop_zero, List.take_succ_cons, List.take_zero, List.drop_succ_cons] at h0 h1
    obtain ⟨b1, o1, c1, l1, o2, c2, l2, rfl, rfl, rfl, a1, a2⟩ := trod_rat h0
    obtain ⟨b2, o3, c3, l3, o4, c4, l4, rfl, rfl, rfl, a3, a4⟩ := trod_rat h1
    exact ⟨⟨b1, l1, l2, b2, l3, l4⟩, o1, c1, o2, c2, o3, c3, o4, c4, rfl, ⟨⟨a1.rd, a1.nil, a1.caps⟩, ⟨a2.rd, a2.nil, a2.caps⟩, ⟨a3.rd, a3.nil, a3.caps⟩, ⟨a4.rd, a4.nil, a4.caps⟩⟩, ⟨a1.len, a2.len, a3.len, a4.len⟩⟩
end
end Go.Proofs.YthlkbnhbmfmchaaGreat
