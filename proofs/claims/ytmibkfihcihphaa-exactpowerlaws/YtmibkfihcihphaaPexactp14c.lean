/- Walks of the law of the powers. Numbers that come in as arguments. -/
import Derived.Test.YtmibkfihcihphaaPexactp14b
import Derived.Test.YtmibkfihcihphaaPexactp14a
import Derived.Test.YtmibkfihcihphaaArgs
import Derived.WalkKit
import Derived.ProofKit
import Derived.OpenShut
import Derived.ChangeOld
import Derived.Lib.SmallJoins
import Derived.Deep.Strs
namespace Go.Proofs.Ytmibkfihcihphaa
open Go.RowKit
set_option linter.unusedVariables false
set_option linter.unusedSimpArgs false
set_option maxRecDepth 100000
theorem ExW_isS_26 : IsS Try.prog 26 6 := ⟨⟨_, Try.underlying26⟩, by kernel_rfl⟩
set_option maxHeartbeats 1000000 in
theorem powerW_any {w : World} {p : Q6} {a1 a2 a3 a4 : Option Addr} {ac1 ac2 ac3 ac4 : Nat} (ha : Nm w p a1 ac1 a2 ac2 a3 ac3 a4 ac4) (hl : LenQ p) {m n i j : Nat} (hm : m ≤ 255) (hn : n ≤ 255) (hi : m % 12 = i) (hj : n % 12 = j) (i12 : i < 12) (j12 : j < 12) {z1 z2 z3 z4 z5 z6 : Q6 × Int} (e1 : exptQ p (((i : Nat) : Int)) = z1) (l1 : LenQ z1.1) (e2 : exptQ p (((j : Nat) : Int)) = z2) (l2 : LenQ z2.1) (e3 : exptQ p (((i + j : Nat) : Int)) = z3) (l3 : LenQ z3.1) (e4 : exptQ p (-((i : Nat) : Int)) = z4) (l4 : LenQ z4.1) (e5 : mulQ z1.1 z2.1 = z5) (l5 : LenQ z5.1) (e6 : mulQ z1.1 z4.1 = z6) (l6 : LenQ z6.1) (hF1 : z1.2 = 0 → z2.2 = 0 → z3.2 = 0 → z5.2 = 0 ∧ sameQ z5.1 z3.1 = true) (hF2 : z1.2 = 0 → sameQ p (Q6.whole false 0) = true → z4.2 = if i = 0 then 0 else 3) (hF3 : z1.2 = 0 → sameQ p (Q6.whole false 0) = false → z4.2 = 4 ∨ (z4.2 = 0 ∧ z6.2 = 0 ∧ sameQ z6.1 (Q6.whole false 1) = true)) : Calls Try.prog 4 #[numV p a1 ac1 a2 ac2 a3 ac3 a4 ac4, .int .u8 ((m : Nat) : Int), .int .u8 ((n : Nat) : Int)] w fun e w' => e = .returned (.bool true) ∧ Below w.heap.size w w' := by
  have hS : St w w [] [(a4, p.q2), (a3, p.t2), (a2, p.q1), (a1, p.t1)] [] := ((((St.start w).addR ha.s1.rd).addR ha.s2.rd).addR ha.s3.rd).addR ha.s4.rd
  refine walk_of (l := [(0, .agg #[.bool p.b1, .slice a1 p.t1.length ac1, .slice a2 p.q1.length ac2, .bool p.b2, .slice a3 p.t2.length ac3, .slice a4 p.q2.length ac4]), (1, .int .u8 (((m : Nat) : Int))), (2, .int .u8 (((n : Nat) : Int)))]) Try.func4 rfl Try.ntmps4 rfl rfl ?_
  intro Q hret hnorm hP a hA
  refine wp_seq_k (fun K1 hK1 => ?_)
  refine wp_region_lit ?_
  refine seq_new (vs := [.bool p.b1, .slice a1 p.t1.length ac1, .slice a2 p.q1.length ac2, .bool p.b2, .slice a3 p.t2.length ac3, .slice a4 p.q2.length ac4]) (t := 26) hA hS rfl rfl rfl (fun g => .pointer (some ⟨g, 0, none⟩)) (does_box rfl rfl) rfl ?_
  intro g2 w3 hS a hA
  refine seq_do hA rfl rfl rfl (does_assign rfl) ?_
  intro a hA
  refine seq_end ?_
  refine hK1 _ _ ?_
  refine wp_seq_k (fun K4 hK4 => ?_)
  refine wp_region_lit ?_
  refine seq_do hA rfl rfl rfl (does_move rfl) ?_
  intro a hA
  refine seq_do (v := .int .u8 (((i : Nat) : Int))) hA rfl rfl rfl (does_bin rfl rfl (bin_rem8 (k := 12) (by omega) (by decide) hi)) ?_
  intro a hA
  refine seq_do (v := .int .i64 (((i : Nat) : Int))) hA rfl rfl rfl (does_convert rfl (conv_u8i Try.underlying5 Try.underlying3 (by omega))) ?_
  intro a hA
  refine seq_do hA rfl rfl rfl (does_move rfl) ?_
  intro a hA
  refine seq_do (v := .int .u8 (((j : Nat) : Int))) hA rfl rfl rfl (does_bin rfl rfl (bin_rem8 (k := 12) (by omega) (by decide) hj)) ?_
  intro a hA
  refine seq_do (v := .int .i64 (((j : Nat) : Int))) hA rfl rfl rfl (does_convert rfl (conv_u8i Try.underlying5 Try.underlying3 (by omega))) ?_
  intro a hA
  refine seq_do hA rfl rfl rfl (does_assign rfl) ?_
  intro a hA
  refine seq_do hA rfl rfl rfl (does_assign rfl) ?_
  intro a hA
  refine seq_end ?_
  refine hK4 _ _ ?_
  refine wp_seq_k (fun K5 hK5 => ?_)
  refine wp_region_lit ?_
  refine seq_do (v := .agg #[.bool p.b1, .slice a1 p.t1.length ac1, .slice a2 p.q1.length ac2, .bool p.b2, .slice a3 p.t2.length ac3, .slice a4 p.q2.length ac4]) hA rfl rfl rfl (does_loadS hS ExW_isS_26 rfl 0 rfl (cs := [.bool p.b1, .slice a1 p.t1.length ac1, .slice a2 p.q1.length ac2, .bool p.b2, .slice a3 p.t2.length ac3, .slice a4 p.q2.length ac4]) rfl rfl) ?_
  intro a hA
  refine seq_do hA rfl rfl rfl (does_move rfl) ?_
  intro a hA
  refine seq_call hA rfl rfl rfl (enters_func  rfl rfl (fun w => by kernel_rfl)) (exptQ_as (show Nm _ p a1 ac1 a2 ac2 a3 ac3 a4 ac4 from ⟨⟨(hS.rd 3 rfl), ha.s1.nil, ha.s1.cap⟩, ⟨(hS.rd 2 rfl), ha.s2.nil, ha.s2.cap⟩, ⟨(hS.rd 1 rfl), ha.s3.nil, ha.s3.cap⟩, ⟨(hS.rd 0 rfl), ha.s4.nil, ha.s4.cap⟩⟩) hl e1) ?_
  rintro _ w9 ⟨p6_1, p6_c1, p6_2, p6_c2, p6_3, p6_c3, p6_4, p6_c4, rfl, hn7, hb8⟩
  replace hS := hS.call hb8
  replace hS := hS.addR hn7.s1.rd
  replace hS := hS.addR hn7.s2.rd
  replace hS := hS.addR hn7.s3.rd
  replace hS := hS.addR hn7.s4.rd
  refine ⟨_, rfl, ?_⟩
  intro a hA
  refine seq_do hA rfl rfl rfl (does_move rfl) ?_
  intro a hA
  refine seq_do (v := .agg #[.bool z1.1.b1, .slice p6_1 z1.1.t1.length p6_c1, .slice p6_2 z1.1.q1.length p6_c2, .bool z1.1.b2, .slice p6_3 z1.1.t2.length p6_c3, .slice p6_4 z1.1.q2.length p6_c4]) hA rfl rfl rfl (does_extract (vs := [.agg #[.bool z1.1.b1, .slice p6_1 z1.1.t1.length p6_c1, .slice p6_2 z1.1.q1.length p6_c2, .bool z1.1.b2, .slice p6_3 z1.1.t2.length p6_c3, .slice p6_4 z1.1.q2.length p6_c4], .int .i64 z1.2]) rfl rfl) ?_
  intro a hA
  refine seq_do (v := .int .i64 z1.2) hA rfl rfl rfl (does_extract (vs := [.agg #[.bool z1.1.b1, .slice p6_1 z1.1.t1.length p6_c1, .slice p6_2 z1.1.q1.length p6_c2, .bool z1.1.b2, .slice p6_3 z1.1.t2.length p6_c3, .slice p6_4 z1.1.q2.length p6_c4], .int .i64 z1.2]) rfl rfl) ?_
  intro a hA
  refine seq_new (vs := [.bool false, .slice none 0 0, .slice none 0 0, .bool false, .slice none 0 0, .slice none 0 0]) (t := 26) hA hS rfl rfl rfl (fun g => .pointer (some ⟨g, 0, none⟩)) (does_alloc (z := .agg #[.bool false, .slice none 0 0, .slice none 0 0, .bool false, .slice none 0 0, .slice none 0 0]) (by kernel_rfl) rfl) rfl ?_
  intro g10 w11 hS a hA
  refine seq_store (us := [.bool z1.1.b1, .slice p6_1 z1.1.t1.length p6_c1, .slice p6_2 z1.1.q1.length p6_c2, .bool z1.1.b2, .slice p6_3 z1.1.t2.length p6_c3, .slice p6_4 z1.1.q2.length p6_c4]) hA hS rfl rfl (sets_store (cs := [.bool z1.1.b1, .slice p6_1 z1.1.t1.length p6_c1, .slice p6_2 z1.1.q1.length p6_c2, .bool z1.1.b2, .slice p6_3 z1.1.t2.length p6_c3, .slice p6_4 z1.1.q2.length p6_c4]) rfl rfl rfl (by kernel_rfl) hS 0 rfl rfl rfl) 0 rfl rfl rfl rfl ?_
  intro w12 hS
  refine seq_do hA rfl rfl rfl (does_assign rfl) ?_
  intro a hA
  refine seq_end ?_
  refine hK5 _ _ ?_
  refine wp_seq_k (fun K13 hK13 => ?_)
  refine wp_region_lit ?_
  refine seq_do (v := .agg #[.bool p.b1, .slice a1 p.t1.length ac1, .slice a2 p.q1.length ac2, .bool p.b2, .slice a3 p.t2.length ac3, .slice a4 p.q2.length ac4]) hA rfl rfl rfl (does_loadS hS ExW_isS_26 rfl 1 rfl (cs := [.bool p.b1, .slice a1 p.t1.length ac1, .slice a2 p.q1.length ac2, .bool p.b2, .slice a3 p.t2.length ac3, .slice a4 p.q2.length ac4]) rfl rfl) ?_
  intro a hA
  refine seq_do hA rfl rfl rfl (does_move rfl) ?_
  intro a hA
  refine seq_call hA rfl rfl rfl (enters_func  rfl rfl (fun w => by kernel_rfl)) (exptQ_as (show Nm _ p a1 ac1 a2 ac2 a3 ac3 a4 ac4 from ⟨⟨(hS.rd 7 rfl), ha.s1.nil, ha.s1.cap⟩, ⟨(hS.rd 6 rfl), ha.s2.nil, ha.s2.cap⟩, ⟨(hS.rd 5 rfl), ha.s3.nil, ha.s3.cap⟩, ⟨(hS.rd 4 rfl), ha.s4.nil, ha.s4.cap⟩⟩) hl e2) ?_
  rintro _ w17 ⟨p14_1, p14_c1, p14_2, p14_c2, p14_3, p14_c3, p14_4, p14_c4, rfl, hn15, hb16⟩
  replace hS := hS.call hb16
  replace hS := hS.addR hn15.s1.rd
  replace hS := hS.addR hn15.s2.rd
  replace hS := hS.addR hn15.s3.rd
  replace hS := hS.addR hn15.s4.rd
  refine ⟨_, rfl, ?_⟩
  intro a hA
  refine seq_do hA rfl rfl rfl (does_move rfl) ?_
  intro a hA
  refine seq_do (v := .agg #[.bool z2.1.b1, .slice p14_1 z2.1.t1.length p14_c1, .slice p14_2 z2.1.q1.length p14_c2, .bool z2.1.b2, .slice p14_3 z2.1.t2.length p14_c3, .slice p14_4 z2.1.q2.length p14_c4]) hA rfl rfl rfl (does_extract (vs := [.agg #[.bool z2.1.b1, .slice p14_1 z2.1.t1.length p14_c1, .slice p14_2 z2.1.q1.length p14_c2, .bool z2.1.b2, .slice p14_3 z2.1.t2.length p14_c3, .slice p14_4 z2.1.q2.length p14_c4], .int .i64 z2.2]) rfl rfl) ?_
  intro a hA
  refine seq_do (v := .int .i64 z2.2) hA rfl rfl rfl (does_extract (vs := [.agg #[.bool z2.1.b1, .slice p14_1 z2.1.t1.length p14_c1, .slice p14_2 z2.1.q1.length p14_c2, .bool z2.1.b2, .slice p14_3 z2.1.t2.length p14_c3, .slice p14_4 z2.1.q2.length p14_c4], .int .i64 z2.2]) rfl rfl) ?_
  intro a hA
  refine seq_new (vs := [.bool false, .slice none 0 0, .slice none 0 0, .bool false, .slice none 0 0, .slice none 0 0]) (t := 26) hA hS rfl rfl rfl (fun g => .pointer (some ⟨g, 0, none⟩)) (does_alloc (z := .agg #[.bool false, .slice none 0 0, .slice none 0 0, .bool false, .slice none 0 0, .slice none 0 0]) (by kernel_rfl) rfl) rfl ?_
  intro g18 w19 hS a hA
  refine seq_store (us := [.bool z2.1.b1, .slice p14_1 z2.1.t1.length p14_c1, .slice p14_2 z2.1.q1.length p14_c2, .bool z2.1.b2, .slice p14_3 z2.1.t2.length p14_c3, .slice p14_4 z2.1.q2.length p14_c4]) hA hS rfl rfl (sets_store (cs := [.bool z2.1.b1, .slice p14_1 z2.1.t1.length p14_c1, .slice p14_2 z2.1.q1.length p14_c2, .bool z2.1.b2, .slice p14_3 z2.1.t2.length p14_c3, .slice p14_4 z2.1.q2.length p14_c4]) rfl rfl rfl (by kernel_rfl) hS 0 rfl rfl rfl) 0 rfl rfl rfl rfl ?_
  intro w20 hS
  refine seq_do hA rfl rfl rfl (does_assign rfl) ?_
  intro a hA
  refine seq_end ?_
  refine hK13 _ _ ?_
  refine wp_seq_k (fun K21 hK21 => ?_)
  refine wp_region_lit ?_
  refine seq_do (v := .agg #[.bool p.b1, .slice a1 p.t1.length ac1, .slice a2 p.q1.length ac2, .bool p.b2, .slice a3 p.t2.length ac3, .slice a4 p.q2.length ac4]) hA rfl rfl rfl (does_loadS hS ExW_isS_26 rfl 2 rfl (cs := [.bool p.b1, .slice a1 p.t1.length ac1, .slice a2 p.q1.length ac2, .bool p.b2, .slice a3 p.t2.length ac3, .slice a4 p.q2.length ac4]) rfl rfl) ?_
  intro a hA
  refine seq_do hA rfl rfl rfl (does_move rfl) ?_
  intro a hA
  refine seq_do hA rfl rfl rfl (does_move rfl) ?_
  intro a hA
  refine seq_do (v := .int .i64 (((i + j : Nat) : Int))) hA rfl rfl rfl (does_bin rfl rfl (fun w => (bin_add (i64In (by omega) (by omega)) w).trans (by rw [show (((i : Nat) : Int) + ((j : Nat) : Int) : Int) = ((i + j : Nat) : Int) from by omega]))) ?_
  intro a hA
  refine seq_call hA rfl rfl rfl (enters_func  rfl rfl (fun w => by kernel_rfl)) (exptQ_as (show Nm _ p a1 ac1 a2 ac2 a3 ac3 a4 ac4 from ⟨⟨(hS.rd 11 rfl), ha.s1.nil, ha.s1.cap⟩, ⟨(hS.rd 10 rfl), ha.s2.nil, ha.s2.cap⟩, ⟨(hS.rd 9 rfl), ha.s3.nil, ha.s3.cap⟩, ⟨(hS.rd 8 rfl), ha.s4.nil, ha.s4.cap⟩⟩) hl e3) ?_
  rintro _ w25 ⟨p22_1, p22_c1, p22_2, p22_c2, p22_3, p22_c3, p22_4, p22_c4, rfl, hn23, hb24⟩
  replace hS := hS.call hb24
  replace hS := hS.addR hn23.s1.rd
  replace hS := hS.addR hn23.s2.rd
  replace hS := hS.addR hn23.s3.rd
  replace hS := hS.addR hn23.s4.rd
  refine ⟨_, rfl, ?_⟩
  intro a hA
  refine seq_do hA rfl rfl rfl (does_move rfl) ?_
  intro a hA
  refine seq_do (v := .agg #[.bool z3.1.b1, .slice p22_1 z3.1.t1.length p22_c1, .slice p22_2 z3.1.q1.length p22_c2, .bool z3.1.b2, .slice p22_3 z3.1.t2.length p22_c3, .slice p22_4 z3.1.q2.length p22_c4]) hA rfl rfl rfl (does_extract (vs := [.agg #[.bool z3.1.b1, .slice p22_1 z3.1.t1.length p22_c1, .slice p22_2 z3.1.q1.length p22_c2, .bool z3.1.b2, .slice p22_3 z3.1.t2.length p22_c3, .slice p22_4 z3.1.q2.length p22_c4], .int .i64 z3.2]) rfl rfl) ?_
  intro a hA
  refine seq_do (v := .int .i64 z3.2) hA rfl rfl rfl (does_extract (vs := [.agg #[.bool z3.1.b1, .slice p22_1 z3.1.t1.length p22_c1, .slice p22_2 z3.1.q1.length p22_c2, .bool z3.1.b2, .slice p22_3 z3.1.t2.length p22_c3, .slice p22_4 z3.1.q2.length p22_c4], .int .i64 z3.2]) rfl rfl) ?_
  intro a hA
  refine seq_new (vs := [.bool false, .slice none 0 0, .slice none 0 0, .bool false, .slice none 0 0, .slice none 0 0]) (t := 26) hA hS rfl rfl rfl (fun g => .pointer (some ⟨g, 0, none⟩)) (does_alloc (z := .agg #[.bool false, .slice none 0 0, .slice none 0 0, .bool false, .slice none 0 0, .slice none 0 0]) (by kernel_rfl) rfl) rfl ?_
  intro g26 w27 hS a hA
  refine seq_store (us := [.bool z3.1.b1, .slice p22_1 z3.1.t1.length p22_c1, .slice p22_2 z3.1.q1.length p22_c2, .bool z3.1.b2, .slice p22_3 z3.1.t2.length p22_c3, .slice p22_4 z3.1.q2.length p22_c4]) hA hS rfl rfl (sets_store (cs := [.bool z3.1.b1, .slice p22_1 z3.1.t1.length p22_c1, .slice p22_2 z3.1.q1.length p22_c2, .bool z3.1.b2, .slice p22_3 z3.1.t2.length p22_c3, .slice p22_4 z3.1.q2.length p22_c4]) rfl rfl rfl (by kernel_rfl) hS 0 rfl rfl rfl) 0 rfl rfl rfl rfl ?_
  intro w28 hS
  refine seq_do hA rfl rfl rfl (does_assign rfl) ?_
  intro a hA
  refine seq_end ?_
  refine hK21 _ _ ?_
  refine wp_seq_k (fun K29 hK29 => ?_)
  refine wp_region_lit ?_
  refine seq_do (v := .agg #[.bool p.b1, .slice a1 p.t1.length ac1, .slice a2 p.q1.length ac2, .bool p.b2, .slice a3 p.t2.length ac3, .slice a4 p.q2.length ac4]) hA rfl rfl rfl (does_loadS hS ExW_isS_26 rfl 3 rfl (cs := [.bool p.b1, .slice a1 p.t1.length ac1, .slice a2 p.q1.length ac2, .bool p.b2, .slice a3 p.t2.length ac3, .slice a4 p.q2.length ac4]) rfl rfl) ?_
  intro a hA
  refine seq_do hA rfl rfl rfl (does_move rfl) ?_
  intro a hA
  refine seq_do (v := .int .i64 (-(((i : Nat) : Int)))) hA rfl rfl rfl (does_un rfl (un_neg (i64In (by omega) (by omega)))) ?_
  intro a hA
  refine seq_call hA rfl rfl rfl (enters_func  rfl rfl (fun w => by kernel_rfl)) (exptQ_as (show Nm _ p a1 ac1 a2 ac2 a3 ac3 a4 ac4 from ⟨⟨(hS.rd 15 rfl), ha.s1.nil, ha.s1.cap⟩, ⟨(hS.rd 14 rfl), ha.s2.nil, ha.s2.cap⟩, ⟨(hS.rd 13 rfl), ha.s3.nil, ha.s3.cap⟩, ⟨(hS.rd 12 rfl), ha.s4.nil, ha.s4.cap⟩⟩) hl e4) ?_
  rintro _ w33 ⟨p30_1, p30_c1, p30_2, p30_c2, p30_3, p30_c3, p30_4, p30_c4, rfl, hn31, hb32⟩
  replace hS := hS.call hb32
  replace hS := hS.addR hn31.s1.rd
  replace hS := hS.addR hn31.s2.rd
  replace hS := hS.addR hn31.s3.rd
  replace hS := hS.addR hn31.s4.rd
  refine ⟨_, rfl, ?_⟩
  intro a hA
  refine seq_do hA rfl rfl rfl (does_move rfl) ?_
  intro a hA
  refine seq_do (v := .agg #[.bool z4.1.b1, .slice p30_1 z4.1.t1.length p30_c1, .slice p30_2 z4.1.q1.length p30_c2, .bool z4.1.b2, .slice p30_3 z4.1.t2.length p30_c3, .slice p30_4 z4.1.q2.length p30_c4]) hA rfl rfl rfl (does_extract (vs := [.agg #[.bool z4.1.b1, .slice p30_1 z4.1.t1.length p30_c1, .slice p30_2 z4.1.q1.length p30_c2, .bool z4.1.b2, .slice p30_3 z4.1.t2.length p30_c3, .slice p30_4 z4.1.q2.length p30_c4], .int .i64 z4.2]) rfl rfl) ?_
  intro a hA
  refine seq_do (v := .int .i64 z4.2) hA rfl rfl rfl (does_extract (vs := [.agg #[.bool z4.1.b1, .slice p30_1 z4.1.t1.length p30_c1, .slice p30_2 z4.1.q1.length p30_c2, .bool z4.1.b2, .slice p30_3 z4.1.t2.length p30_c3, .slice p30_4 z4.1.q2.length p30_c4], .int .i64 z4.2]) rfl rfl) ?_
  intro a hA
  refine seq_new (vs := [.bool false, .slice none 0 0, .slice none 0 0, .bool false, .slice none 0 0, .slice none 0 0]) (t := 26) hA hS rfl rfl rfl (fun g => .pointer (some ⟨g, 0, none⟩)) (does_alloc (z := .agg #[.bool false, .slice none 0 0, .slice none 0 0, .bool false, .slice none 0 0, .slice none 0 0]) (by kernel_rfl) rfl) rfl ?_
  intro g34 w35 hS a hA
  refine seq_store (us := [.bool z4.1.b1, .slice p30_1 z4.1.t1.length p30_c1, .slice p30_2 z4.1.q1.length p30_c2, .bool z4.1.b2, .slice p30_3 z4.1.t2.length p30_c3, .slice p30_4 z4.1.q2.length p30_c4]) hA hS rfl rfl (sets_store (cs := [.bool z4.1.b1, .slice p30_1 z4.1.t1.length p30_c1, .slice p30_2 z4.1.q1.length p30_c2, .bool z4.1.b2, .slice p30_3 z4.1.t2.length p30_c3, .slice p30_4 z4.1.q2.length p30_c4]) rfl rfl rfl (by kernel_rfl) hS 0 rfl rfl rfl) 0 rfl rfl rfl rfl ?_
  intro w36 hS
  refine seq_do hA rfl rfl rfl (does_assign rfl) ?_
  intro a hA
  refine seq_end ?_
  refine hK29 _ _ ?_
  refine wp_seq_k (fun K37 hK37 => ?_)
  refine wp_seq_k (fun K38 hK38 => ?_)
  refine wp_region_lit ?_
  refine seq_call hA rfl rfl rfl (enters_func  rfl rfl (fun w => by kernel_rfl)) (awake3_any) ?_
  rintro _ w40 ⟨rfl, hb39⟩
  replace hS := hS.call hb39
  refine ⟨_, rfl, ?_⟩
  intro a hA
  refine seq_do (v := .bool false) hA rfl rfl rfl (does_un rfl un_not) ?_
  intro a hA
  refine seq_do hA rfl rfl rfl (does_move rfl) ?_
  intro a hA
  refine seq_do hA rfl rfl rfl (does_move rfl) ?_
  intro a hA
  rcases Bool.eq_false_or_eq_true ((z1.2 != 0)) with hb41 | hb41
  · have hb41' := bne_iff_ne.1 hb41
    refine seq_do (v := .bool true) hA rfl rfl rfl (does_bin rfl rfl (fun w => (bin_neq w).trans (by rw [hb41]))) ?_
    intro a hA
    refine seq_do (v := .bool true) hA rfl rfl rfl (does_pick rfl rfl rfl rfl) ?_
    intro a hA
    refine seq_do hA rfl rfl rfl (does_move rfl) ?_
    intro a hA
    refine seq_skip hA rfl rfl rfl ?_
    intro a hA
    refine seq_skip hA rfl rfl rfl ?_
    intro a hA
    refine seq_do (v := .bool true) hA rfl rfl rfl (does_pick rfl rfl rfl rfl) ?_
    intro a hA
    refine seq_do hA rfl rfl rfl (does_move rfl) ?_
    intro a hA
    refine seq_skip hA rfl rfl rfl ?_
    intro a hA
    refine seq_skip hA rfl rfl rfl ?_
    intro a hA
    refine seq_do (v := .bool true) hA rfl rfl rfl (does_pick rfl rfl rfl rfl) ?_
    intro a hA
    refine seq_end ?_
    refine hK38 _ _ ?_
    refine wp_cond_true (hA.ev rfl) ?_
    refine wp_seq_k (fun K42 hK42 => ?_)
    refine wp_region_lit ?_
    refine seq_call hA rfl rfl rfl (enters_func  rfl rfl (fun w => by kernel_rfl)) (awake3_any) ?_
    rintro _ w44 ⟨rfl, hb43⟩
    replace hS := hS.call hb43
    refine ⟨_, rfl, ?_⟩
    intro a hA
    refine seq_do hA rfl rfl rfl (does_assign rfl) ?_
    intro a hA
    refine seq_end ?_
    refine hK42 _ _ ?_
    refine wp_ret ?_
    refine hret _ _ ?_
    refine ends (v := .bool true) hA rfl (.cons (res_tmp rfl) .nil) rfl ?_
    exact ⟨rfl, hS.bel⟩
  · have hb41' := bne_eq_false_iff_eq.1 hb41
    refine seq_do (v := .bool false) hA rfl rfl rfl (does_bin rfl rfl (fun w => (bin_neq w).trans (by rw [hb41]))) ?_
    intro a hA
    refine seq_do (v := .bool false) hA rfl rfl rfl (does_pick rfl rfl rfl rfl) ?_
    intro a hA
    refine seq_do hA rfl rfl rfl (does_move rfl) ?_
    intro a hA
    refine seq_do hA rfl rfl rfl (does_move rfl) ?_
    intro a hA
    rcases Bool.eq_false_or_eq_true ((z2.2 != 0)) with hb45 | hb45
    · have hb45' := bne_iff_ne.1 hb45
      refine seq_do (v := .bool true) hA rfl rfl rfl (does_bin rfl rfl (fun w => (bin_neq w).trans (by rw [hb45]))) ?_
      intro a hA
      refine seq_do (v := .bool true) hA rfl rfl rfl (does_pick rfl rfl rfl rfl) ?_
      intro a hA
      refine seq_do hA rfl rfl rfl (does_move rfl) ?_
      intro a hA
      refine seq_skip hA rfl rfl rfl ?_
      intro a hA
      refine seq_skip hA rfl rfl rfl ?_
      intro a hA
      refine seq_do (v := .bool true) hA rfl rfl rfl (does_pick rfl rfl rfl rfl) ?_
      intro a hA
      refine seq_end ?_
      refine hK38 _ _ ?_
      refine wp_cond_true (hA.ev rfl) ?_
      refine wp_seq_k (fun K46 hK46 => ?_)
      refine wp_region_lit ?_
      refine seq_call hA rfl rfl rfl (enters_func  rfl rfl (fun w => by kernel_rfl)) (awake3_any) ?_
      rintro _ w48 ⟨rfl, hb47⟩
      replace hS := hS.call hb47
      refine ⟨_, rfl, ?_⟩
      intro a hA
      refine seq_do hA rfl rfl rfl (does_assign rfl) ?_
      intro a hA
      refine seq_end ?_
      refine hK46 _ _ ?_
      refine wp_ret ?_
      refine hret _ _ ?_
      refine ends (v := .bool true) hA rfl (.cons (res_tmp rfl) .nil) rfl ?_
      exact ⟨rfl, hS.bel⟩
    · have hb45' := bne_eq_false_iff_eq.1 hb45
      refine seq_do (v := .bool false) hA rfl rfl rfl (does_bin rfl rfl (fun w => (bin_neq w).trans (by rw [hb45]))) ?_
      intro a hA
      refine seq_do (v := .bool false) hA rfl rfl rfl (does_pick rfl rfl rfl rfl) ?_
      intro a hA
      refine seq_do hA rfl rfl rfl (does_move rfl) ?_
      intro a hA
      refine seq_do hA rfl rfl rfl (does_move rfl) ?_
      intro a hA
      rcases Bool.eq_false_or_eq_true ((z3.2 != 0)) with hb49 | hb49
      · have hb49' := bne_iff_ne.1 hb49
        refine seq_do (v := .bool true) hA rfl rfl rfl (does_bin rfl rfl (fun w => (bin_neq w).trans (by rw [hb49]))) ?_
        intro a hA
        refine seq_do (v := .bool true) hA rfl rfl rfl (does_pick rfl rfl rfl rfl) ?_
        intro a hA
        refine seq_end ?_
        refine hK38 _ _ ?_
        refine wp_cond_true (hA.ev rfl) ?_
        refine wp_seq_k (fun K50 hK50 => ?_)
        refine wp_region_lit ?_
        refine seq_call hA rfl rfl rfl (enters_func  rfl rfl (fun w => by kernel_rfl)) (awake3_any) ?_
        rintro _ w52 ⟨rfl, hb51⟩
        replace hS := hS.call hb51
        refine ⟨_, rfl, ?_⟩
        intro a hA
        refine seq_do hA rfl rfl rfl (does_assign rfl) ?_
        intro a hA
        refine seq_end ?_
        refine hK50 _ _ ?_
        refine wp_ret ?_
        refine hret _ _ ?_
        refine ends (v := .bool true) hA rfl (.cons (res_tmp rfl) .nil) rfl ?_
        exact ⟨rfl, hS.bel⟩
      · have hb49' := bne_eq_false_iff_eq.1 hb49
        refine seq_do (v := .bool false) hA rfl rfl rfl (does_bin rfl rfl (fun w => (bin_neq w).trans (by rw [hb49]))) ?_
        intro a hA
        refine seq_do (v := .bool false) hA rfl rfl rfl (does_pick rfl rfl rfl rfl) ?_
        intro a hA
        refine seq_end ?_
        refine hK38 _ _ ?_
        refine wp_cond_false (hA.ev rfl) ?_
        refine wp_skip ?_
        refine hK37 _ _ ?_
        refine wp_seq_k (fun K53 hK53 => ?_)
        refine wp_region_lit ?_
        refine seq_do (v := .agg #[.bool z1.1.b1, .slice p6_1 z1.1.t1.length p6_c1, .slice p6_2 z1.1.q1.length p6_c2, .bool z1.1.b2, .slice p6_3 z1.1.t2.length p6_c3, .slice p6_4 z1.1.q2.length p6_c4]) hA rfl rfl rfl (does_loadS hS ExW_isS_26 rfl 3 rfl (cs := [.bool z1.1.b1, .slice p6_1 z1.1.t1.length p6_c1, .slice p6_2 z1.1.q1.length p6_c2, .bool z1.1.b2, .slice p6_3 z1.1.t2.length p6_c3, .slice p6_4 z1.1.q2.length p6_c4]) rfl rfl) ?_
        intro a hA
        refine seq_do (v := .agg #[.bool z2.1.b1, .slice p14_1 z2.1.t1.length p14_c1, .slice p14_2 z2.1.q1.length p14_c2, .bool z2.1.b2, .slice p14_3 z2.1.t2.length p14_c3, .slice p14_4 z2.1.q2.length p14_c4]) hA rfl rfl rfl (does_loadS hS ExW_isS_26 rfl 2 rfl (cs := [.bool z2.1.b1, .slice p14_1 z2.1.t1.length p14_c1, .slice p14_2 z2.1.q1.length p14_c2, .bool z2.1.b2, .slice p14_3 z2.1.t2.length p14_c3, .slice p14_4 z2.1.q2.length p14_c4]) rfl rfl) ?_
        intro a hA
        refine seq_call hA rfl rfl rfl (enters_func  rfl rfl (fun w => by kernel_rfl)) (mulQ_as (show Nm _ z1.1 p6_1 p6_c1 p6_2 p6_c2 p6_3 p6_c3 p6_4 p6_c4 from ⟨⟨(hS.rd 15 rfl), hn7.s1.nil, hn7.s1.cap⟩, ⟨(hS.rd 14 rfl), hn7.s2.nil, hn7.s2.cap⟩, ⟨(hS.rd 13 rfl), hn7.s3.nil, hn7.s3.cap⟩, ⟨(hS.rd 12 rfl), hn7.s4.nil, hn7.s4.cap⟩⟩) l1 (show Nm _ z2.1 p14_1 p14_c1 p14_2 p14_c2 p14_3 p14_c3 p14_4 p14_c4 from ⟨⟨(hS.rd 11 rfl), hn15.s1.nil, hn15.s1.cap⟩, ⟨(hS.rd 10 rfl), hn15.s2.nil, hn15.s2.cap⟩, ⟨(hS.rd 9 rfl), hn15.s3.nil, hn15.s3.cap⟩, ⟨(hS.rd 8 rfl), hn15.s4.nil, hn15.s4.cap⟩⟩) l2 e5) ?_
        rintro _ w57 ⟨p54_1, p54_c1, p54_2, p54_c2, p54_3, p54_c3, p54_4, p54_c4, rfl, hn55, hb56⟩
        replace hS := hS.call hb56
        replace hS := hS.addR hn55.s1.rd
        replace hS := hS.addR hn55.s2.rd
        replace hS := hS.addR hn55.s3.rd
        replace hS := hS.addR hn55.s4.rd
        refine ⟨_, rfl, ?_⟩
        intro a hA
        refine seq_do hA rfl rfl rfl (does_move rfl) ?_
        intro a hA
        refine seq_do (v := .agg #[.bool z5.1.b1, .slice p54_1 z5.1.t1.length p54_c1, .slice p54_2 z5.1.q1.length p54_c2, .bool z5.1.b2, .slice p54_3 z5.1.t2.length p54_c3, .slice p54_4 z5.1.q2.length p54_c4]) hA rfl rfl rfl (does_extract (vs := [.agg #[.bool z5.1.b1, .slice p54_1 z5.1.t1.length p54_c1, .slice p54_2 z5.1.q1.length p54_c2, .bool z5.1.b2, .slice p54_3 z5.1.t2.length p54_c3, .slice p54_4 z5.1.q2.length p54_c4], .int .i64 z5.2]) rfl rfl) ?_
        intro a hA
        refine seq_do (v := .int .i64 z5.2) hA rfl rfl rfl (does_extract (vs := [.agg #[.bool z5.1.b1, .slice p54_1 z5.1.t1.length p54_c1, .slice p54_2 z5.1.q1.length p54_c2, .bool z5.1.b2, .slice p54_3 z5.1.t2.length p54_c3, .slice p54_4 z5.1.q2.length p54_c4], .int .i64 z5.2]) rfl rfl) ?_
        intro a hA
        refine seq_new (vs := [.bool false, .slice none 0 0, .slice none 0 0, .bool false, .slice none 0 0, .slice none 0 0]) (t := 26) hA hS rfl rfl rfl (fun g => .pointer (some ⟨g, 0, none⟩)) (does_alloc (z := .agg #[.bool false, .slice none 0 0, .slice none 0 0, .bool false, .slice none 0 0, .slice none 0 0]) (by kernel_rfl) rfl) rfl ?_
        intro g58 w59 hS a hA
        refine seq_store (us := [.bool z5.1.b1, .slice p54_1 z5.1.t1.length p54_c1, .slice p54_2 z5.1.q1.length p54_c2, .bool z5.1.b2, .slice p54_3 z5.1.t2.length p54_c3, .slice p54_4 z5.1.q2.length p54_c4]) hA hS rfl rfl (sets_store (cs := [.bool z5.1.b1, .slice p54_1 z5.1.t1.length p54_c1, .slice p54_2 z5.1.q1.length p54_c2, .bool z5.1.b2, .slice p54_3 z5.1.t2.length p54_c3, .slice p54_4 z5.1.q2.length p54_c4]) rfl rfl rfl (by kernel_rfl) hS 0 rfl rfl rfl) 0 rfl rfl rfl rfl ?_
        intro w60 hS
        refine seq_do hA rfl rfl rfl (does_assign rfl) ?_
        intro a hA
        refine seq_end ?_
        refine hK53 _ _ ?_
        refine wp_seq_k (fun K61 hK61 => ?_)
        refine wp_seq_k (fun K62 hK62 => ?_)
        refine wp_region_lit ?_
        refine seq_do hA rfl rfl rfl (does_move rfl) ?_
        intro a hA
        refine seq_do (v := .bool false) hA rfl rfl rfl (does_bin rfl rfl (fun w => (bin_neq w).trans (by rw [show ((z5.2 != 0)) = false from (bne_eq_false_iff_eq.2 (hF1 (bne0 hb41) (bne0 hb45) (bne0 hb49)).1)]))) ?_
        intro a hA
        refine seq_do hA rfl rfl rfl (does_move rfl) ?_
        intro a hA
        refine seq_do (v := .agg #[.bool z5.1.b1, .slice p54_1 z5.1.t1.length p54_c1, .slice p54_2 z5.1.q1.length p54_c2, .bool z5.1.b2, .slice p54_3 z5.1.t2.length p54_c3, .slice p54_4 z5.1.q2.length p54_c4]) hA rfl rfl rfl (does_loadS hS ExW_isS_26 rfl 0 rfl (cs := [.bool z5.1.b1, .slice p54_1 z5.1.t1.length p54_c1, .slice p54_2 z5.1.q1.length p54_c2, .bool z5.1.b2, .slice p54_3 z5.1.t2.length p54_c3, .slice p54_4 z5.1.q2.length p54_c4]) rfl rfl) ?_
        intro a hA
        refine seq_do (v := .agg #[.bool z3.1.b1, .slice p22_1 z3.1.t1.length p22_c1, .slice p22_2 z3.1.q1.length p22_c2, .bool z3.1.b2, .slice p22_3 z3.1.t2.length p22_c3, .slice p22_4 z3.1.q2.length p22_c4]) hA rfl rfl rfl (does_loadS hS ExW_isS_26 rfl 2 rfl (cs := [.bool z3.1.b1, .slice p22_1 z3.1.t1.length p22_c1, .slice p22_2 z3.1.q1.length p22_c2, .bool z3.1.b2, .slice p22_3 z3.1.t2.length p22_c3, .slice p22_4 z3.1.q2.length p22_c4]) rfl rfl) ?_
        intro a hA
        refine seq_call hA rfl rfl rfl (enters_func  rfl rfl (fun w => by kernel_rfl)) (sameQ_any (show Nm _ z5.1 p54_1 p54_c1 p54_2 p54_c2 p54_3 p54_c3 p54_4 p54_c4 from ⟨⟨(hS.rd 3 rfl), hn55.s1.nil, hn55.s1.cap⟩, ⟨(hS.rd 2 rfl), hn55.s2.nil, hn55.s2.cap⟩, ⟨(hS.rd 1 rfl), hn55.s3.nil, hn55.s3.cap⟩, ⟨(hS.rd 0 rfl), hn55.s4.nil, hn55.s4.cap⟩⟩) l5 (show Nm _ z3.1 p22_1 p22_c1 p22_2 p22_c2 p22_3 p22_c3 p22_4 p22_c4 from ⟨⟨(hS.rd 11 rfl), hn23.s1.nil, hn23.s1.cap⟩, ⟨(hS.rd 10 rfl), hn23.s2.nil, hn23.s2.cap⟩, ⟨(hS.rd 9 rfl), hn23.s3.nil, hn23.s3.cap⟩, ⟨(hS.rd 8 rfl), hn23.s4.nil, hn23.s4.cap⟩⟩) l3 ((hF1 (bne0 hb41) (bne0 hb45) (bne0 hb49)).2)) ?_
        rintro _ w64 ⟨rfl, hb63⟩
        replace hS := hS.call hb63
        refine ⟨_, rfl, ?_⟩
        intro a hA
        refine seq_do (v := .bool false) hA rfl rfl rfl (does_un rfl un_not) ?_
        intro a hA
        refine seq_do (v := .bool false) hA rfl rfl rfl (does_pick rfl rfl rfl rfl) ?_
        intro a hA
        refine seq_end ?_
        refine hK62 _ _ ?_
        refine wp_cond_false (hA.ev rfl) ?_
        refine wp_skip ?_
        refine hK61 _ _ ?_
        refine wp_seq_k (fun K65 hK65 => ?_)
        refine wp_seq_k (fun K66 hK66 => ?_)
        refine wp_draw (S := fun w1 => St w w1 [(g58, [.bool z5.1.b1, .slice p54_1 z5.1.t1.length p54_c1, .slice p54_2 z5.1.q1.length p54_c2, .bool z5.1.b2, .slice p54_3 z5.1.t2.length p54_c3, .slice p54_4 z5.1.q2.length p54_c4]), (g34, [.bool z4.1.b1, .slice p30_1 z4.1.t1.length p30_c1, .slice p30_2 z4.1.q1.length p30_c2, .bool z4.1.b2, .slice p30_3 z4.1.t2.length p30_c3, .slice p30_4 z4.1.q2.length p30_c4]), (g26, [.bool z3.1.b1, .slice p22_1 z3.1.t1.length p22_c1, .slice p22_2 z3.1.q1.length p22_c2, .bool z3.1.b2, .slice p22_3 z3.1.t2.length p22_c3, .slice p22_4 z3.1.q2.length p22_c4]), (g18, [.bool z2.1.b1, .slice p14_1 z2.1.t1.length p14_c1, .slice p14_2 z2.1.q1.length p14_c2, .bool z2.1.b2, .slice p14_3 z2.1.t2.length p14_c3, .slice p14_4 z2.1.q2.length p14_c4]), (g10, [.bool z1.1.b1, .slice p6_1 z1.1.t1.length p6_c1, .slice p6_2 z1.1.q1.length p6_c2, .bool z1.1.b2, .slice p6_3 z1.1.t2.length p6_c3, .slice p6_4 z1.1.q2.length p6_c4]), (g2, [.bool p.b1, .slice a1 p.t1.length ac1, .slice a2 p.q1.length ac2, .bool p.b2, .slice a3 p.t2.length ac3, .slice a4 p.q2.length ac4])] [(p54_4, z5.1.q2), (p54_3, z5.1.t2), (p54_2, z5.1.q1), (p54_1, z5.1.t1), (p30_4, z4.1.q2), (p30_3, z4.1.t2), (p30_2, z4.1.q1), (p30_1, z4.1.t1), (p22_4, z3.1.q2), (p22_3, z3.1.t2), (p22_2, z3.1.q1), (p22_1, z3.1.t1), (p14_4, z2.1.q2), (p14_3, z2.1.t2), (p14_2, z2.1.q1), (p14_1, z2.1.t1), (p6_4, z1.1.q2), (p6_3, z1.1.t2), (p6_2, z1.1.q1), (p6_1, z1.1.t1), (a4, p.q2), (a3, p.t2), (a2, p.q1), (a1, p.t1)] []) (by kernel_rfl) ?_
        replace hS := hS.drew
        refine any_take (v := .agg #[.bool p.b1, .slice a1 p.t1.length ac1, .slice a2 p.q1.length ac2, .bool p.b2, .slice a3 p.t2.length ac3, .slice a4 p.q2.length ac4]) hA 0 rfl rfl rfl rfl (by kernel_rfl) (by kernel_rfl) (by kernel_rfl) (fun c a w h => hP c a _ _ w h) hS (fun w1 hS => does_loadS hS ExW_isS_26 rfl 5 rfl (cs := [.bool p.b1, .slice a1 p.t1.length ac1, .slice a2 p.q1.length ac2, .bool p.b2, .slice a3 p.t2.length ac3, .slice a4 p.q2.length ac4]) rfl rfl) ?_
        intro a hA
        refine any_one (by kernel_rfl) (op_call hA 1 rfl rfl rfl rfl (enters_func  rfl rfl (fun w => by kernel_rfl)) ((show Calls Try.prog 13 #[.int .i64 (0)] _ (AnsV _ (Q6.whole false 0)) from intP_any (k := 0) (by decide))) ?_)
        rintro _ w70 ⟨p67_1, p67_c1, p67_2, p67_c2, p67_3, p67_c3, p67_4, p67_c4, rfl, hn68, hb69⟩
        replace hS := hS.call hb69
        replace hS := hS.addR hn68.s1.rd
        replace hS := hS.addR hn68.s2.rd
        replace hS := hS.addR hn68.s3.rd
        replace hS := hS.addR hn68.s4.rd
        refine ⟨_, rfl, (hS.partD (.refl _) 4 rfl (.refl _)), ?_⟩
        intro a hA
        rcases Bool.eq_false_or_eq_true (sameQ p (Q6.whole false 0)) with hb71 | hb71
        · refine any_one (by kernel_rfl) (op_call hA 2 rfl rfl rfl rfl (enters_func  rfl rfl (fun w => by kernel_rfl)) (sameQ_any (show Nm _ p a1 ac1 a2 ac2 a3 ac3 a4 ac4 from ⟨⟨(hS.rd 27 rfl), ha.s1.nil, ha.s1.cap⟩, ⟨(hS.rd 26 rfl), ha.s2.nil, ha.s2.cap⟩, ⟨(hS.rd 25 rfl), ha.s3.nil, ha.s3.cap⟩, ⟨(hS.rd 24 rfl), ha.s4.nil, ha.s4.cap⟩⟩) hl (show Nm _ (Q6.whole false 0) p67_1 p67_c1 p67_2 p67_c2 p67_3 p67_c3 p67_4 p67_c4 from ⟨⟨(hS.rd 3 rfl), hn68.s1.nil, hn68.s1.cap⟩, ⟨(hS.rd 2 rfl), hn68.s2.nil, hn68.s2.cap⟩, ⟨(hS.rd 1 rfl), hn68.s3.nil, hn68.s3.cap⟩, ⟨(hS.rd 0 rfl), hn68.s4.nil, hn68.s4.cap⟩⟩) (lenQ_whole zero_len) hb71) ?_)
          rintro _ w73 ⟨rfl, hb72⟩
          replace hS := hS.call hb72
          refine ⟨_, rfl, (hS.partD (.refl _) 4 rfl (.refl _)), ?_⟩
          intro a hA
          refine any_end (by kernel_rfl) ?_
          refine hK66 _ _ ?_
          refine wp_cond_true (hA.ev rfl) ?_
          refine wp_seq_k (fun K74 hK74 => ?_)
          refine wp_region_lit ?_
          refine seq_do hA rfl rfl rfl (does_move rfl) ?_
          intro a hA
          rcases Bool.eq_false_or_eq_true ((((i : Nat) : Int) == 0)) with hb75 | hb75
          · have hb75' := eq_of_beq hb75
            refine seq_do (v := .bool true) hA rfl rfl rfl (does_bin rfl rfl (fun w => (bin_eql w).trans (by rw [hb75]))) ?_
            intro a hA
            refine seq_do hA rfl rfl rfl (does_move rfl) ?_
            intro a hA
            refine seq_do hA rfl rfl rfl (does_move rfl) ?_
            intro a hA
            refine seq_do (v := .bool true) hA rfl rfl rfl (does_bin rfl rfl (fun w => (bin_eql w).trans (by rw [show ((z4.2 == 0)) = true from (beq_iff_eq.2 ((hF2 (bne0 hb41) hb71).trans (if_pos (by omega))))]))) ?_
            intro a hA
            refine seq_do (v := .bool true) hA rfl rfl rfl (does_pick rfl rfl rfl rfl) ?_
            intro a hA
            refine seq_do hA rfl rfl rfl (does_move rfl) ?_
            intro a hA
            refine seq_skip hA rfl rfl rfl ?_
            intro a hA
            refine seq_skip hA rfl rfl rfl ?_
            intro a hA
            refine seq_skip hA rfl rfl rfl ?_
            intro a hA
            refine seq_skipU hA rfl rfl rfl ?_
            intro a hA
            refine seq_skipU hA rfl rfl rfl ?_
            intro a hA
            refine seq_skip hA rfl rfl rfl ?_
            intro a hA
            refine seq_do (v := .bool true) hA rfl rfl rfl (does_pick rfl rfl rfl rfl) ?_
            intro a hA
            refine seq_do hA rfl rfl rfl (does_assign rfl) ?_
            intro a hA
            refine seq_end ?_
            refine hK74 _ _ ?_
            refine wp_ret ?_
            refine hret _ _ ?_
            refine ends (v := .bool true) hA rfl (.cons (res_tmp rfl) .nil) rfl ?_
            exact ⟨rfl, hS.bel⟩
          · have hb75' := ne_of_beq_false hb75
            refine seq_do (v := .bool false) hA rfl rfl rfl (does_bin rfl rfl (fun w => (bin_eql w).trans (by rw [hb75]))) ?_
            intro a hA
            refine seq_do hA rfl rfl rfl (does_move rfl) ?_
            intro a hA
            refine seq_skip hA rfl rfl rfl ?_
            intro a hA
            refine seq_skip hA rfl rfl rfl ?_
            intro a hA
            refine seq_do (v := .bool false) hA rfl rfl rfl (does_pick rfl rfl rfl rfl) ?_
            intro a hA
            refine seq_do hA rfl rfl rfl (does_move rfl) ?_
            intro a hA
            refine seq_do hA rfl rfl rfl (does_move rfl) ?_
            intro a hA
            refine seq_do (v := .bool true) hA rfl rfl rfl (does_bin rfl rfl (fun w => (bin_gtr w).trans (by rw [show (decide (0 < ((i : Nat) : Int))) = true from (decide_eq_true (by omega))]))) ?_
            intro a hA
            refine seq_do hA rfl rfl rfl (does_move rfl) ?_
            intro a hA
            refine seq_do hA rfl rfl rfl (does_move rfl) ?_
            intro a hA
            refine seq_do (v := .bool true) hA rfl rfl rfl (does_bin rfl rfl (fun w => (bin_eql w).trans (by rw [show ((z4.2 == 3)) = true from (beq_iff_eq.2 ((hF2 (bne0 hb41) hb71).trans (if_neg (by omega))))]))) ?_
            intro a hA
            refine seq_do (v := .bool true) hA rfl rfl rfl (does_pick rfl rfl rfl rfl) ?_
            intro a hA
            refine seq_do (v := .bool true) hA rfl rfl rfl (does_pick rfl rfl rfl rfl) ?_
            intro a hA
            refine seq_do hA rfl rfl rfl (does_assign rfl) ?_
            intro a hA
            refine seq_end ?_
            refine hK74 _ _ ?_
            refine wp_ret ?_
            refine hret _ _ ?_
            refine ends (v := .bool true) hA rfl (.cons (res_tmp rfl) .nil) rfl ?_
            exact ⟨rfl, hS.bel⟩
        · refine any_one (by kernel_rfl) (op_call hA 2 rfl rfl rfl rfl (enters_func  rfl rfl (fun w => by kernel_rfl)) (sameQ_any (show Nm _ p a1 ac1 a2 ac2 a3 ac3 a4 ac4 from ⟨⟨(hS.rd 27 rfl), ha.s1.nil, ha.s1.cap⟩, ⟨(hS.rd 26 rfl), ha.s2.nil, ha.s2.cap⟩, ⟨(hS.rd 25 rfl), ha.s3.nil, ha.s3.cap⟩, ⟨(hS.rd 24 rfl), ha.s4.nil, ha.s4.cap⟩⟩) hl (show Nm _ (Q6.whole false 0) p67_1 p67_c1 p67_2 p67_c2 p67_3 p67_c3 p67_4 p67_c4 from ⟨⟨(hS.rd 3 rfl), hn68.s1.nil, hn68.s1.cap⟩, ⟨(hS.rd 2 rfl), hn68.s2.nil, hn68.s2.cap⟩, ⟨(hS.rd 1 rfl), hn68.s3.nil, hn68.s3.cap⟩, ⟨(hS.rd 0 rfl), hn68.s4.nil, hn68.s4.cap⟩⟩) (lenQ_whole zero_len) hb71) ?_)
          rintro _ w77 ⟨rfl, hb76⟩
          replace hS := hS.call hb76
          refine ⟨_, rfl, (hS.partD (.refl _) 4 rfl (.refl _)), ?_⟩
          intro a hA
          refine any_end (by kernel_rfl) ?_
          refine hK66 _ _ ?_
          refine wp_cond_false (hA.ev rfl) ?_
          refine wp_skip ?_
          refine hK65 _ _ ?_
          refine wp_seq_k (fun K78 hK78 => ?_)
          refine wp_region_lit ?_
          refine seq_do (v := .agg #[.bool z1.1.b1, .slice p6_1 z1.1.t1.length p6_c1, .slice p6_2 z1.1.q1.length p6_c2, .bool z1.1.b2, .slice p6_3 z1.1.t2.length p6_c3, .slice p6_4 z1.1.q2.length p6_c4]) hA rfl rfl rfl (does_loadS hS ExW_isS_26 rfl 4 rfl (cs := [.bool z1.1.b1, .slice p6_1 z1.1.t1.length p6_c1, .slice p6_2 z1.1.q1.length p6_c2, .bool z1.1.b2, .slice p6_3 z1.1.t2.length p6_c3, .slice p6_4 z1.1.q2.length p6_c4]) rfl rfl) ?_
          intro a hA
          refine seq_do (v := .agg #[.bool z4.1.b1, .slice p30_1 z4.1.t1.length p30_c1, .slice p30_2 z4.1.q1.length p30_c2, .bool z4.1.b2, .slice p30_3 z4.1.t2.length p30_c3, .slice p30_4 z4.1.q2.length p30_c4]) hA rfl rfl rfl (does_loadS hS ExW_isS_26 rfl 1 rfl (cs := [.bool z4.1.b1, .slice p30_1 z4.1.t1.length p30_c1, .slice p30_2 z4.1.q1.length p30_c2, .bool z4.1.b2, .slice p30_3 z4.1.t2.length p30_c3, .slice p30_4 z4.1.q2.length p30_c4]) rfl rfl) ?_
          intro a hA
          refine seq_call hA rfl rfl rfl (enters_func  rfl rfl (fun w => by kernel_rfl)) (mulQ_as (show Nm _ z1.1 p6_1 p6_c1 p6_2 p6_c2 p6_3 p6_c3 p6_4 p6_c4 from ⟨⟨(hS.rd 23 rfl), hn7.s1.nil, hn7.s1.cap⟩, ⟨(hS.rd 22 rfl), hn7.s2.nil, hn7.s2.cap⟩, ⟨(hS.rd 21 rfl), hn7.s3.nil, hn7.s3.cap⟩, ⟨(hS.rd 20 rfl), hn7.s4.nil, hn7.s4.cap⟩⟩) l1 (show Nm _ z4.1 p30_1 p30_c1 p30_2 p30_c2 p30_3 p30_c3 p30_4 p30_c4 from ⟨⟨(hS.rd 11 rfl), hn31.s1.nil, hn31.s1.cap⟩, ⟨(hS.rd 10 rfl), hn31.s2.nil, hn31.s2.cap⟩, ⟨(hS.rd 9 rfl), hn31.s3.nil, hn31.s3.cap⟩, ⟨(hS.rd 8 rfl), hn31.s4.nil, hn31.s4.cap⟩⟩) l4 e6) ?_
          rintro _ w82 ⟨p79_1, p79_c1, p79_2, p79_c2, p79_3, p79_c3, p79_4, p79_c4, rfl, hn80, hb81⟩
          replace hS := hS.call hb81
          replace hS := hS.addR hn80.s1.rd
          replace hS := hS.addR hn80.s2.rd
          replace hS := hS.addR hn80.s3.rd
          replace hS := hS.addR hn80.s4.rd
          refine ⟨_, rfl, ?_⟩
          intro a hA
          refine seq_do hA rfl rfl rfl (does_move rfl) ?_
          intro a hA
          refine seq_do (v := .agg #[.bool z6.1.b1, .slice p79_1 z6.1.t1.length p79_c1, .slice p79_2 z6.1.q1.length p79_c2, .bool z6.1.b2, .slice p79_3 z6.1.t2.length p79_c3, .slice p79_4 z6.1.q2.length p79_c4]) hA rfl rfl rfl (does_extract (vs := [.agg #[.bool z6.1.b1, .slice p79_1 z6.1.t1.length p79_c1, .slice p79_2 z6.1.q1.length p79_c2, .bool z6.1.b2, .slice p79_3 z6.1.t2.length p79_c3, .slice p79_4 z6.1.q2.length p79_c4], .int .i64 z6.2]) rfl rfl) ?_
          intro a hA
          refine seq_do (v := .int .i64 z6.2) hA rfl rfl rfl (does_extract (vs := [.agg #[.bool z6.1.b1, .slice p79_1 z6.1.t1.length p79_c1, .slice p79_2 z6.1.q1.length p79_c2, .bool z6.1.b2, .slice p79_3 z6.1.t2.length p79_c3, .slice p79_4 z6.1.q2.length p79_c4], .int .i64 z6.2]) rfl rfl) ?_
          intro a hA
          refine seq_new (vs := [.bool false, .slice none 0 0, .slice none 0 0, .bool false, .slice none 0 0, .slice none 0 0]) (t := 26) hA hS rfl rfl rfl (fun g => .pointer (some ⟨g, 0, none⟩)) (does_alloc (z := .agg #[.bool false, .slice none 0 0, .slice none 0 0, .bool false, .slice none 0 0, .slice none 0 0]) (by kernel_rfl) rfl) rfl ?_
          intro g83 w84 hS a hA
          refine seq_store (us := [.bool z6.1.b1, .slice p79_1 z6.1.t1.length p79_c1, .slice p79_2 z6.1.q1.length p79_c2, .bool z6.1.b2, .slice p79_3 z6.1.t2.length p79_c3, .slice p79_4 z6.1.q2.length p79_c4]) hA hS rfl rfl (sets_store (cs := [.bool z6.1.b1, .slice p79_1 z6.1.t1.length p79_c1, .slice p79_2 z6.1.q1.length p79_c2, .bool z6.1.b2, .slice p79_3 z6.1.t2.length p79_c3, .slice p79_4 z6.1.q2.length p79_c4]) rfl rfl rfl (by kernel_rfl) hS 0 rfl rfl rfl) 0 rfl rfl rfl rfl ?_
          intro w85 hS
          refine seq_do hA rfl rfl rfl (does_assign rfl) ?_
          intro a hA
          refine seq_end ?_
          refine hK78 _ _ ?_
          refine wp_seq_k (fun K86 hK86 => ?_)
          refine wp_draw (S := fun w1 => St w w1 [(g83, [.bool z6.1.b1, .slice p79_1 z6.1.t1.length p79_c1, .slice p79_2 z6.1.q1.length p79_c2, .bool z6.1.b2, .slice p79_3 z6.1.t2.length p79_c3, .slice p79_4 z6.1.q2.length p79_c4]), (g58, [.bool z5.1.b1, .slice p54_1 z5.1.t1.length p54_c1, .slice p54_2 z5.1.q1.length p54_c2, .bool z5.1.b2, .slice p54_3 z5.1.t2.length p54_c3, .slice p54_4 z5.1.q2.length p54_c4]), (g34, [.bool z4.1.b1, .slice p30_1 z4.1.t1.length p30_c1, .slice p30_2 z4.1.q1.length p30_c2, .bool z4.1.b2, .slice p30_3 z4.1.t2.length p30_c3, .slice p30_4 z4.1.q2.length p30_c4]), (g26, [.bool z3.1.b1, .slice p22_1 z3.1.t1.length p22_c1, .slice p22_2 z3.1.q1.length p22_c2, .bool z3.1.b2, .slice p22_3 z3.1.t2.length p22_c3, .slice p22_4 z3.1.q2.length p22_c4]), (g18, [.bool z2.1.b1, .slice p14_1 z2.1.t1.length p14_c1, .slice p14_2 z2.1.q1.length p14_c2, .bool z2.1.b2, .slice p14_3 z2.1.t2.length p14_c3, .slice p14_4 z2.1.q2.length p14_c4]), (g10, [.bool z1.1.b1, .slice p6_1 z1.1.t1.length p6_c1, .slice p6_2 z1.1.q1.length p6_c2, .bool z1.1.b2, .slice p6_3 z1.1.t2.length p6_c3, .slice p6_4 z1.1.q2.length p6_c4]), (g2, [.bool p.b1, .slice a1 p.t1.length ac1, .slice a2 p.q1.length ac2, .bool p.b2, .slice a3 p.t2.length ac3, .slice a4 p.q2.length ac4])] [(p79_4, z6.1.q2), (p79_3, z6.1.t2), (p79_2, z6.1.q1), (p79_1, z6.1.t1), (p67_4, [1]), (p67_3, []), (p67_2, [1]), (p67_1, words 0), (p54_4, z5.1.q2), (p54_3, z5.1.t2), (p54_2, z5.1.q1), (p54_1, z5.1.t1), (p30_4, z4.1.q2), (p30_3, z4.1.t2), (p30_2, z4.1.q1), (p30_1, z4.1.t1), (p22_4, z3.1.q2), (p22_3, z3.1.t2), (p22_2, z3.1.q1), (p22_1, z3.1.t1), (p14_4, z2.1.q2), (p14_3, z2.1.t2), (p14_2, z2.1.q1), (p14_1, z2.1.t1), (p6_4, z1.1.q2), (p6_3, z1.1.t2), (p6_2, z1.1.q1), (p6_1, z1.1.t1), (a4, p.q2), (a3, p.t2), (a2, p.q1), (a1, p.t1)] []) (by kernel_rfl) ?_
          replace hS := hS.drew
          refine any_take hA 0 rfl rfl rfl rfl (by kernel_rfl) (by kernel_rfl) (by kernel_rfl) (fun c a w h => hP c a _ _ w h) hS (fun w1 hS => does_move rfl) ?_
          intro a hA
          rcases Bool.eq_false_or_eq_true ((z4.2 == 4)) with hb87 | hb87
          · have hb87' := eq_of_beq hb87
            refine any_take (v := .bool true) hA 1 rfl rfl rfl rfl (by kernel_rfl) (by kernel_rfl) (by kernel_rfl) (fun c a w h => hP c a _ _ w h) hS (fun w1 hS => does_bin rfl rfl (fun w => (bin_eql w).trans (by rw [hb87]))) ?_
            intro a hA
            refine any_take hA 2 rfl rfl rfl rfl (by kernel_rfl) (by kernel_rfl) (by kernel_rfl) (fun c a w h => hP c a _ _ w h) hS (fun w1 hS => does_move rfl) ?_
            intro a hA
            refine any_skip hA 3 rfl rfl rfl rfl (by kernel_rfl) (by kernel_rfl) (by kernel_rfl) (fun c a w h => hP c a _ _ w h) hS ?_
            intro a hA
            refine any_skip hA 4 rfl rfl rfl rfl (by kernel_rfl) (by kernel_rfl) (by kernel_rfl) (fun c a w h => hP c a _ _ w h) hS ?_
            intro a hA
            refine any_skip hA 5 rfl rfl rfl rfl (by kernel_rfl) (by kernel_rfl) (by kernel_rfl) (fun c a w h => hP c a _ _ w h) hS ?_
            intro a hA
            refine any_skipU hA 6 rfl rfl rfl rfl (by kernel_rfl) (by kernel_rfl) (by kernel_rfl) (fun c a w h => hP c a _ _ w h) hS ?_
            intro a hA
            refine any_skipU hA 7 rfl rfl rfl rfl (by kernel_rfl) (by kernel_rfl) (by kernel_rfl) (fun c a w h => hP c a _ _ w h) hS ?_
            intro a hA
            refine any_skipU hA 8 rfl rfl rfl rfl (by kernel_rfl) (by kernel_rfl) (by kernel_rfl) (fun c a w h => hP c a _ _ w h) hS ?_
            intro a hA
            refine any_skipU hA 9 rfl rfl rfl rfl (by kernel_rfl) (by kernel_rfl) (by kernel_rfl) (fun c a w h => hP c a _ _ w h) hS ?_
            intro a hA
            refine any_skipU hA 10 rfl rfl rfl rfl (by kernel_rfl) (by kernel_rfl) (by kernel_rfl) (fun c a w h => hP c a _ _ w h) hS ?_
            intro a hA
            refine any_skipU hA 11 rfl rfl rfl rfl (by kernel_rfl) (by kernel_rfl) (by kernel_rfl) (fun c a w h => hP c a _ _ w h) hS ?_
            intro a hA
            refine any_skipU hA 12 rfl rfl rfl rfl (by kernel_rfl) (by kernel_rfl) (by kernel_rfl) (fun c a w h => hP c a _ _ w h) hS ?_
            intro a hA
            refine any_skip hA 13 rfl rfl rfl rfl (by kernel_rfl) (by kernel_rfl) (by kernel_rfl) (fun c a w h => hP c a _ _ w h) hS ?_
            intro a hA
            refine any_take (v := .bool true) hA 14 rfl rfl rfl rfl (by kernel_rfl) (by kernel_rfl) (by kernel_rfl) (fun c a w h => hP c a _ _ w h) hS (fun w1 hS => does_pick rfl rfl rfl rfl) ?_
            intro a hA
            refine any_take hA 15 rfl rfl rfl rfl (by kernel_rfl) (by kernel_rfl) (by kernel_rfl) (fun c a w h => hP c a _ _ w h) hS (fun w1 hS => does_assign rfl) ?_
            intro a hA
            refine any_end (by kernel_rfl) ?_
            refine hK86 _ _ ?_
            refine wp_ret ?_
            refine hret _ _ ?_
            refine ends (v := .bool true) hA rfl (.cons (res_tmp rfl) .nil) rfl ?_
            exact ⟨rfl, hS.bel⟩
          · have hb87' := ne_of_beq_false hb87
            refine any_take (v := .bool false) hA 1 rfl rfl rfl rfl (by kernel_rfl) (by kernel_rfl) (by kernel_rfl) (fun c a w h => hP c a _ _ w h) hS (fun w1 hS => does_bin rfl rfl (fun w => (bin_eql w).trans (by rw [hb87]))) ?_
            intro a hA
            refine any_take hA 2 rfl rfl rfl rfl (by kernel_rfl) (by kernel_rfl) (by kernel_rfl) (fun c a w h => hP c a _ _ w h) hS (fun w1 hS => does_move rfl) ?_
            intro a hA
            refine any_take hA 3 rfl rfl rfl rfl (by kernel_rfl) (by kernel_rfl) (by kernel_rfl) (fun c a w h => hP c a _ _ w h) hS (fun w1 hS => does_move rfl) ?_
            intro a hA
            refine any_take (v := .bool true) hA 4 rfl rfl rfl rfl (by kernel_rfl) (by kernel_rfl) (by kernel_rfl) (fun c a w h => hP c a _ _ w h) hS (fun w1 hS => does_bin rfl rfl (fun w => (bin_eql w).trans (by rw [show ((z4.2 == 0)) = true from (beq_iff_eq.2 ((hF3 (bne0 hb41) hb71).resolve_left (ne_of_beq_false hb87)).1)]))) ?_
            intro a hA
            refine any_take hA 5 rfl rfl rfl rfl (by kernel_rfl) (by kernel_rfl) (by kernel_rfl) (fun c a w h => hP c a _ _ w h) hS (fun w1 hS => does_move rfl) ?_
            intro a hA
            refine any_take hA 6 rfl rfl rfl rfl (by kernel_rfl) (by kernel_rfl) (by kernel_rfl) (fun c a w h => hP c a _ _ w h) hS (fun w1 hS => does_move rfl) ?_
            intro a hA
            refine any_take (v := .bool false) hA 7 rfl rfl rfl rfl (by kernel_rfl) (by kernel_rfl) (by kernel_rfl) (fun c a w h => hP c a _ _ w h) hS (fun w1 hS => does_bin rfl rfl (fun w => (bin_neq w).trans (by rw [show ((z6.2 != 0)) = false from (bne_eq_false_iff_eq.2 ((hF3 (bne0 hb41) hb71).resolve_left (ne_of_beq_false hb87)).2.1)]))) ?_
            intro a hA
            refine any_take hA 8 rfl rfl rfl rfl (by kernel_rfl) (by kernel_rfl) (by kernel_rfl) (fun c a w h => hP c a _ _ w h) hS (fun w1 hS => does_move rfl) ?_
            intro a hA
            refine any_take (v := .agg #[.bool z6.1.b1, .slice p79_1 z6.1.t1.length p79_c1, .slice p79_2 z6.1.q1.length p79_c2, .bool z6.1.b2, .slice p79_3 z6.1.t2.length p79_c3, .slice p79_4 z6.1.q2.length p79_c4]) hA 9 rfl rfl rfl rfl (by kernel_rfl) (by kernel_rfl) (by kernel_rfl) (fun c a w h => hP c a _ _ w h) hS (fun w1 hS => does_loadS hS ExW_isS_26 rfl 0 rfl (cs := [.bool z6.1.b1, .slice p79_1 z6.1.t1.length p79_c1, .slice p79_2 z6.1.q1.length p79_c2, .bool z6.1.b2, .slice p79_3 z6.1.t2.length p79_c3, .slice p79_4 z6.1.q2.length p79_c4]) rfl rfl) ?_
            intro a hA
            refine any_one (by kernel_rfl) (op_call hA 10 rfl rfl rfl rfl (enters_func  rfl rfl (fun w => by kernel_rfl)) ((show Calls Try.prog 13 #[.int .i64 (1)] _ (AnsV _ (Q6.whole false 1)) from intP_any (k := 1) (by decide))) ?_)
            rintro _ w91 ⟨p88_1, p88_c1, p88_2, p88_c2, p88_3, p88_c3, p88_4, p88_c4, rfl, hn89, hb90⟩
            replace hS := hS.call hb90
            replace hS := hS.addR hn89.s1.rd
            replace hS := hS.addR hn89.s2.rd
            replace hS := hS.addR hn89.s3.rd
            replace hS := hS.addR hn89.s4.rd
            refine ⟨_, rfl, (hS.partD (.refl _) 4 rfl (.refl _)), ?_⟩
            intro a hA
            refine any_one (by kernel_rfl) (op_call hA 11 rfl rfl rfl rfl (enters_func  rfl rfl (fun w => by kernel_rfl)) (sameQ_any (show Nm _ z6.1 p79_1 p79_c1 p79_2 p79_c2 p79_3 p79_c3 p79_4 p79_c4 from ⟨⟨(hS.rd 7 rfl), hn80.s1.nil, hn80.s1.cap⟩, ⟨(hS.rd 6 rfl), hn80.s2.nil, hn80.s2.cap⟩, ⟨(hS.rd 5 rfl), hn80.s3.nil, hn80.s3.cap⟩, ⟨(hS.rd 4 rfl), hn80.s4.nil, hn80.s4.cap⟩⟩) l6 (show Nm _ (Q6.whole false 1) p88_1 p88_c1 p88_2 p88_c2 p88_3 p88_c3 p88_4 p88_c4 from ⟨⟨(hS.rd 3 rfl), hn89.s1.nil, hn89.s1.cap⟩, ⟨(hS.rd 2 rfl), hn89.s2.nil, hn89.s2.cap⟩, ⟨(hS.rd 1 rfl), hn89.s3.nil, hn89.s3.cap⟩, ⟨(hS.rd 0 rfl), hn89.s4.nil, hn89.s4.cap⟩⟩) (lenQ_whole one_len) (((hF3 (bne0 hb41) hb71).resolve_left (ne_of_beq_false hb87)).2.2)) ?_)
            rintro _ w93 ⟨rfl, hb92⟩
            replace hS := hS.call hb92
            refine ⟨_, rfl, (hS.partD (.refl _) 4 rfl (.refl _)), ?_⟩
            intro a hA
            refine any_take (v := .bool true) hA 12 rfl rfl rfl rfl (by kernel_rfl) (by kernel_rfl) (by kernel_rfl) (fun c a w h => hP c a _ _ w h) (hS.partD (.refl _) 4 rfl (.refl _)) (fun w1 hS => does_pick rfl rfl rfl rfl) ?_
            intro a hA
            refine any_take (v := .bool true) hA 13 rfl rfl rfl rfl (by kernel_rfl) (by kernel_rfl) (by kernel_rfl) (fun c a w h => hP c a _ _ w h) (hS.partD (.refl _) 4 rfl (.refl _)) (fun w1 hS => does_pick rfl rfl rfl rfl) ?_
            intro a hA
            refine any_take (v := .bool true) hA 14 rfl rfl rfl rfl (by kernel_rfl) (by kernel_rfl) (by kernel_rfl) (fun c a w h => hP c a _ _ w h) (hS.partD (.refl _) 4 rfl (.refl _)) (fun w1 hS => does_pick rfl rfl rfl rfl) ?_
            intro a hA
            refine any_take hA 15 rfl rfl rfl rfl (by kernel_rfl) (by kernel_rfl) (by kernel_rfl) (fun c a w h => hP c a _ _ w h) (hS.partD (.refl _) 4 rfl (.refl _)) (fun w1 hS => does_assign rfl) ?_
            intro a hA
            refine any_end (by kernel_rfl) ?_
            refine hK86 _ _ ?_
            refine wp_ret ?_
            refine hret _ _ ?_
            refine ends (v := .bool true) hA rfl (.cons (res_tmp rfl) .nil) rfl ?_
            exact ⟨rfl, hS.bel⟩
theorem exactPowerLaws_any {w : World} {p : Q6} {a1 a2 a3 a4 : Option Addr} {ac1 ac2 ac3 ac4 : Nat} (ha : Nm w p a1 ac1 a2 ac2 a3 ac3 a4 ac4) (hl : LenQ p) {m n : Int} (m0 : 0 ≤ m) (m1 : m ≤ 255) (n0 : 0 ≤ n) (n1 : n ≤ 255) : Calls Try.prog 4 #[numV p a1 ac1 a2 ac2 a3 ac3 a4 ac4, .int .u8 m, .int .u8 n] w fun e w' => e = .returned (.bool true) ∧ Below w.heap.size w w' := by
  obtain ⟨M, rfl⟩ := Int.eq_ofNat_of_zero_le m0
  obtain ⟨N, rfl⟩ := Int.eq_ofNat_of_zero_le n0
  refine powerW_any ha hl (by omega) (by omega) rfl rfl (Nat.mod_lt _ (by decide)) (Nat.mod_lt _ (by decide)) rfl (lenQ_expt _ _) rfl (lenQ_expt _ _) rfl (lenQ_expt _ _) rfl (lenQ_expt _ _) rfl (lenQ_mul _ _) rfl (lenQ_mul _ _) ?_ ?_ ?_
  all_goals
    have b1 := Nat.mod_lt M (show 0 < 12 by decide)
    rcases sound_cases ha with hs | ⟨u, v, rfl, hu, hv⟩
  · intro h; rw [exptQ_bad hs] at h; exact absurd h (by decide)
  · exact power_mul hu hv
  · intro h; rw [exptQ_bad hs] at h; exact absurd h (by decide)
  · intro _ hz; exact power_zero hu hv (by omega) hz
  · intro h; rw [exptQ_bad hs] at h; exact absurd h (by decide)
  · intro h1 hz; exact power_inv hu hv (by omega) hz h1
end Go.Proofs.Ytmibkfihcihphaa
namespace Go.Proofs.Ytmibkfihcihphaa
open Go.ChangeShapes Go.WideShapes Go.ChangeAt Go.RowKit Go.Joins Go.Deep
set_option linter.unusedVariables false
set_option linter.unusedSimpArgs false
set_option maxRecDepth 100000

section
variable {H : Type} {enc : TypeId × Value → H} {W : World}
theorem trod_bool {fuel : Nat} {v : Value} {x : DataW H × List MemPlace} (h : DataW.trod enc Try.prog W 0 (fun _ => true) true fuel 4 [v] = some x) : ∃ b, v = .bool b := by
  obtain ⟨b, h, _⟩ := DataW.trod_bool Try.underlying4 h
  exact ⟨b, by simpa using h⟩
theorem trod_words {fuel : Nat} {v : Value} {x : DataW H × List MemPlace} (h : DataW.trod enc Try.prog W 0 (fun _ => true) true fuel 22 [v] = some x) : ∃ ao c l, v = .slice ao l.length c ∧ Arg W ao c l := by
  rcases open_ints Try.underlying22 Try.underlying67 (by kernel_rfl) h with ⟨hcs, _⟩ | ⟨x, l, c, zs, hcs, _, hl, hm, hz, hx, hcell, hwz⟩
  · cases hcs
    exact ⟨none, 0, [], rfl, arg_nil W⟩
  · cases hcs
    obtain ⟨us, e, ha⟩ := arg_row hl hm (by simpa using hz) hcell hwz
    subst e
    exact ⟨_, _, us, rfl, ha⟩
theorem trod_rat {fuel : Nat} {v0 v1 v2 : Value} {x : DataW H × List MemPlace} (h : DataW.trod enc Try.prog W 0 (fun _ => true) true fuel 24 [v0, v1, v2] = some x) : ∃ b o1 c1 l1 o2 c2 l2, v0 = .bool b ∧ v1 = .slice o1 l1.length c1 ∧ v2 = .slice o2 l2.length c2 ∧ Arg W o1 c1 l1 ∧ Arg W o2 c2 l2 := by
  obtain ⟨y0, y1, y2, n, _, _, h0, h1, h2⟩ := trod_struct3 Try.underlying24 h
  have e0 : Try.prog.cellsOf 4 = 1 := by kernel_rfl
  have e1 : Try.prog.cellsOf 22 = 1 := by kernel_rfl
  simp only [e0, e1, List.drop_zero, List.take_succ_cons, List.take_zero, List.drop_succ_cons] at h0 h1 h2
  obtain ⟨b, rfl⟩ := trod_bool h0
  obtain ⟨o1, c1, l1, rfl, a1⟩ := trod_words h1
  obtain ⟨o2, c2, l2, rfl, a2⟩ := trod_words h2
  exact ⟨b, o1, c1, l1, o2, c2, l2, rfl, rfl, rfl, a1, a2⟩
theorem open_num {base : Nat} {v : Value} {d : DataW H} {p : List MemPlace} (hv : Value.okWide Try.prog W .any base 26 v) (h : DataW.Trod enc Try.prog W 0 (fun _ => true) true 26 v d p) :
    ∃ q o1 c1 o2 c2 o3 c3 o4 c4, v = numV q o1 c1 o2 c2 o3 c3 o4 c4 ∧ Nm W q o1 c1 o2 c2 o3 c3 o4 c4 ∧ LenQ q := by
  obtain ⟨cs, rfl, hsz⟩ := okWide_struct Try.underlying26 hv
  rw [show Try.prog.cellsOf 26 = 6 from by kernel_rfl] at hsz
  obtain ⟨cs⟩ := cs
  match cs, hsz with
  | [v0, v1, v2, v3, v4, v5], _ =>
    obtain ⟨fuel, hf⟩ := h
    obtain ⟨y0, y1, n, _, _, h0, h1⟩ := trod_struct2 Try.underlying26 hf
    have e : Try.prog.cellsOf 24 = 3 := by kernel_rfl
    simp only [Value.cells, e, List.drop_zero, List.take_succ_cons, List.take_zero, List.drop_succ_cons] at h0 h1
    obtain ⟨b1, o1, c1, l1, o2, c2, l2, rfl, rfl, rfl, a1, a2⟩ := trod_rat h0
    obtain ⟨b2, o3, c3, l3, o4, c4, l4, rfl, rfl, rfl, a3, a4⟩ := trod_rat h1
    exact ⟨⟨b1, l1, l2, b2, l3, l4⟩, o1, c1, o2, c2, o3, c3, o4, c4, rfl, ⟨⟨a1.rd, a1.nil, a1.caps⟩, ⟨a2.rd, a2.nil, a2.caps⟩, ⟨a3.rd, a3.nil, a3.caps⟩, ⟨a4.rd, a4.nil, a4.caps⟩⟩, ⟨a1.len, a2.len, a3.len, a4.len⟩⟩
end
end Go.Proofs.Ytmibkfihcihphaa
