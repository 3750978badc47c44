/- Walks of the document's DivMod. The walk of the law of whole parts. Numbers that come in as arguments. -/
import Derived.Test.YthlkbnhbmfmchaaGreatPexactw11c
import Derived.Test.YthlkbnhbmfmchaaGreatPexactw11a
import Derived.Test.YthlkbnhbmfmchaaGreatArgs
import Derived.WalkKit
import Derived.ProofKit
import Derived.OpenShut
import Derived.ChangeOld
import Derived.Lib.SmallJoins
import Derived.Deep.Strs
namespace Go.Proofs.YthlkbnhbmfmchaaGreat
open Go.RowKit
set_option linter.unusedVariables false
set_option linter.unusedSimpArgs false
set_option maxRecDepth 100000
theorem SmF_is1_22 : Is1 Tryz.prog 22 := ⟨⟨_, Tryz.underlying22, rfl⟩, by kernel_rfl⟩
theorem SmF_is1_4 : Is1 Tryz.prog 4 := ⟨⟨_, Tryz.underlying4, rfl⟩, by kernel_rfl⟩
theorem SmF_fld_24_0 : FieldAt Tryz.prog 24 0 0 := ⟨_, _, Tryz.underlying24, rfl, rfl, by kernel_rfl⟩
theorem SmF_fld_24_1 : FieldAt Tryz.prog 24 1 1 := ⟨_, _, Tryz.underlying24, rfl, rfl, by kernel_rfl⟩
theorem SmF_fld_24_2 : FieldAt Tryz.prog 24 2 2 := ⟨_, _, Tryz.underlying24, rfl, rfl, by kernel_rfl⟩
theorem SmF_fld_26_0 : FieldAt Tryz.prog 26 0 0 := ⟨_, _, Tryz.underlying26, rfl, rfl, by kernel_rfl⟩
theorem SmF_isS_24 : IsS Tryz.prog 24 3 := ⟨⟨_, Tryz.underlying24⟩, by kernel_rfl⟩
theorem SmF_isS_26 : IsS Tryz.prog 26 6 := ⟨⟨_, Tryz.underlying26⟩, by kernel_rfl⟩
theorem rdmE0_any {w : World} {p q : Q6} {a1 a2 a3 a4 : Option Addr} {ac1 ac2 ac3 ac4 : Nat} (ha : Nm w p a1 ac1 a2 ac2 a3 ac3 a4 ac4) (hl : LenQ p) {u1 u2 u3 u4 : Option Addr} {uc1 uc2 uc3 uc4 : Nat} (hb : Nm w q u1 uc1 u2 uc2 u3 uc3 u4 uc4) (hm : LenQ q) (h1 : soundQ p = false) : Calls Tryz.prog 29 #[numV p a1 ac1 a2 ac2 a3 ac3 a4 ac4, numV q u1 uc1 u2 uc2 u3 uc3 u4 uc4] w (AnsNN w (Q6.zero, Q6.zero, 2)) := by
 have hS : St w w [] [(u4, q.q2), (u3, q.t2), (u2, q.q1), (u1, q.t1), (a4, p.q2), (a3, p.t2), (a2, p.q1), (a1, p.t1)] [] := ((((((((St.start w).addR ha.s1.rd).addR ha.s2.rd).addR ha.s3.rd).addR ha.s4.rd).addR hb.s1.rd).addR hb.s2.rd).addR hb.s3.rd).addR hb.s4.rd
 refine walk_of (l := [(0, .agg #[.bool p.b1, .slice a1 p.t1.length ac1, .slice a2 p.q1.length ac2, .bool p.b2, .slice a3 p.t2.length ac3, .slice a4 p.q2.length ac4]), (1, .agg #[.bool q.b1, .slice u1 q.t1.length uc1, .slice u2 q.q1.length uc2, .bool q.b2, .slice u3 q.t2.length uc3, .slice u4 q.q2.length uc4])]) Tryz.func29 rfl Tryz.ntmps29 rfl rfl ?_
 intro Q hret hnorm hP a hA
 refine wp_seq_k (fun K1 hK1 => ?_)
 refine wp_region_lit ?_
 refine seq_new hA hS rfl rfl rfl (fun g => .pointer (some ⟨g, 0, none⟩)) (d_box rfl rfl) rfl ?_
 intro g2 w3 hS a hA
 refine seq_new hA hS rfl rfl rfl (fun g => .pointer (some ⟨g, 0, none⟩)) (d_box rfl rfl) rfl ?_
 intro g4 w5 hS a hA
 refine seq_new (vs := [.bool false, .slice none 0 0, .slice none 0 0, .bool false, .slice none 0 0, .slice none 0 0]) (t := 26) hA hS rfl rfl rfl (fun g => .pointer (some ⟨g, 0, none⟩)) (d_alloc (z := .agg #[.bool false, .slice none 0 0, .slice none 0 0, .bool false, .slice none 0 0, .slice none 0 0]) (by kernel_rfl) rfl) rfl ?_
 intro g6 w7 hS a hA
 refine seq_new (vs := [.bool false, .slice none 0 0, .slice none 0 0, .bool false, .slice none 0 0, .slice none 0 0]) (t := 26) hA hS rfl rfl rfl (fun g => .pointer (some ⟨g, 0, none⟩)) (d_alloc (z := .agg #[.bool false, .slice none 0 0, .slice none 0 0, .bool false, .slice none 0 0, .slice none 0 0]) (by kernel_rfl) rfl) rfl ?_
 intro g8 w9 hS a hA
 refine seq_do hA rfl rfl rfl (d_assign rfl) ?_
 intro a hA
 refine seq_end ?_
 refine hK1 _ _ ?_
 refine wp_seq_k (fun K10 hK10 => ?_)
 refine wp_seq_k (fun K11 hK11 => ?_)
 refine wp_region_lit ?_
 refine seq_do hA rfl rfl rfl (d_loadS hS SmF_isS_26 rfl 3 rfl (cs := [.bool p.b1, .slice a1 p.t1.length ac1, .slice a2 p.q1.length ac2, .bool p.b2, .slice a3 p.t2.length ac3, .slice a4 p.q2.length ac4]) rfl rfl) ?_
 intro a hA
 refine seq_call hA rfl rfl rfl (enters_func  rfl rfl (fun w => by kernel_rfl)) (rsoundQ_any (show Nm _ p a1 ac1 a2 ac2 a3 ac3 a4 ac4 from ⟨⟨(hS.rd 7 rfl), ha.s1.nil, ha.s1.cap⟩, ⟨(hS.rd 6 rfl), ha.s2.nil, ha.s2.cap⟩, ⟨(hS.rd 5 rfl), ha.s3.nil, ha.s3.cap⟩, ⟨(hS.rd 4 rfl), ha.s4.nil, ha.s4.cap⟩⟩) hl h1) ?_
 rintro _ w13 ⟨rfl, hb12⟩
 replace hS := hS.call hb12
 refine ⟨_, rfl, ?_⟩
 intro a hA
 refine seq_do (v := .bool true) hA rfl rfl rfl (d_un rfl un_not) ?_
 intro a hA
 refine seq_do hA rfl rfl rfl (d_move rfl) ?_
 intro a hA
 refine seq_skip hA rfl rfl rfl ?_
 intro a hA
 refine seq_skip hA rfl rfl rfl ?_
 intro a hA
 refine seq_skip hA rfl rfl rfl ?_
 intro a hA
 refine seq_do (v := .bool true) hA rfl rfl rfl (d_pick rfl rfl rfl rfl) ?_
 intro a hA
 refine seq_end ?_
 refine hK11 _ _ ?_
 refine wp_cond_true (hA.ev rfl) ?_
 refine wp_seq_k (fun K14 hK14 => ?_)
 refine wp_region_lit ?_
 refine seq_do (v := .agg #[.bool false, .slice none 0 0, .slice none 0 0, .bool false, .slice none 0 0, .slice none 0 0]) hA rfl rfl rfl (d_build rfl (fun w => by kernel_rfl)) ?_
 intro a hA
 refine seq_do (v := .agg #[.bool false, .slice none 0 0, .slice none 0 0, .bool false, .slice none 0 0, .slice none 0 0]) hA rfl rfl rfl (d_build rfl (fun w => by kernel_rfl)) ?_
 intro a hA
 refine seq_store (us := [.bool false, .slice none 0 0, .slice none 0 0, .bool false, .slice none 0 0, .slice none 0 0]) hA hS rfl rfl (sets_store rfl rfl rfl (by kernel_rfl) hS 1 rfl rfl rfl) 1 rfl rfl rfl rfl ?_
 intro w15 hS
 refine seq_store (us := [.bool false, .slice none 0 0, .slice none 0 0, .bool false, .slice none 0 0, .slice none 0 0]) hA hS rfl rfl (sets_store rfl rfl rfl (by kernel_rfl) hS 0 rfl rfl rfl) 0 rfl rfl rfl rfl ?_
 intro w16 hS
 refine seq_do hA rfl rfl rfl (d_assign rfl) ?_
 intro a hA
 refine seq_end ?_
 refine hK14 _ _ ?_
 refine wp_ret ?_
 refine hret _ _ ?_
 refine ends (v := .tuple #[.agg #[.bool false, .slice none 0 0, .slice none 0 0, .bool false, .slice none 0 0, .slice none 0 0], .agg #[.bool false, .slice none 0 0, .slice none 0 0, .bool false, .slice none 0 0, .slice none 0 0], .int .i64 2]) hA rfl (.cons (res_cell hS SmF_isS_26 rfl 1 rfl (cs := [.bool false, .slice none 0 0, .slice none 0 0, .bool false, .slice none 0 0, .slice none 0 0]) rfl rfl) (.cons (res_cell hS SmF_isS_26 rfl 0 rfl (cs := [.bool false, .slice none 0 0, .slice none 0 0, .bool false, .slice none 0 0, .slice none 0 0]) rfl rfl) (.cons (res_tmp rfl) .nil))) rfl ?_
 exact ⟨none, 0, none, 0, none, 0, none, 0, none, 0, none, 0, none, 0, none, 0, rfl, ⟨(Sc.none _), (Sc.none _), (Sc.none _), (Sc.none _)⟩, ⟨(Sc.none _), (Sc.none _), (Sc.none _), (Sc.none _)⟩, hS.bel⟩
theorem rdmE1_any {w : World} {p q : Q6} {a1 a2 a3 a4 : Option Addr} {ac1 ac2 ac3 ac4 : Nat} (ha : Nm w p a1 ac1 a2 ac2 a3 ac3 a4 ac4) (hl : LenQ p) {u1 u2 u3 u4 : Option Addr} {uc1 uc2 uc3 uc4 : Nat} (hb : Nm w q u1 uc1 u2 uc2 u3 uc3 u4 uc4) (hm : LenQ q) (h1 : soundQ p = true) (h2 : soundQ q = false) : Calls Tryz.prog 29 #[numV p a1 ac1 a2 ac2 a3 ac3 a4 ac4, numV q u1 uc1 u2 uc2 u3 uc3 u4 uc4] w (AnsNN w (Q6.zero, Q6.zero, 2)) := by
 have hS : St w w [] [(u4, q.q2), (u3, q.t2), (u2, q.q1), (u1, q.t1), (a4, p.q2), (a3, p.t2), (a2, p.q1), (a1, p.t1)] [] := ((((((((St.start w).addR ha.s1.rd).addR ha.s2.rd).addR ha.s3.rd).addR ha.s4.rd).addR hb.s1.rd).addR hb.s2.rd).addR hb.s3.rd).addR hb.s4.rd
 refine walk_of (l := [(0, .agg #[.bool p.b1, .slice a1 p.t1.length ac1, .slice a2 p.q1.length ac2, .bool p.b2, .slice a3 p.t2.length ac3, .slice a4 p.q2.length ac4]), (1, .agg #[.bool q.b1, .slice u1 q.t1.length uc1, .slice u2 q.q1.length uc2, .bool q.b2, .slice u3 q.t2.length uc3, .slice u4 q.q2.length uc4])]) Tryz.func29 rfl Tryz.ntmps29 rfl rfl ?_
 intro Q hret hnorm hP a hA
 refine wp_seq_k (fun K1 hK1 => ?_)
 refine wp_region_lit ?_
 refine seq_new hA hS rfl rfl rfl (fun g => .pointer (some ⟨g, 0, none⟩)) (d_box rfl rfl) rfl ?_
 intro g2 w3 hS a hA
 refine seq_new hA hS rfl rfl rfl (fun g => .pointer (some ⟨g, 0, none⟩)) (d_box rfl rfl) rfl ?_
 intro g4 w5 hS a hA
 refine seq_new (vs := [.bool false, .slice none 0 0, .slice none 0 0, .bool false, .slice none 0 0, .slice none 0 0]) (t := 26) hA hS rfl rfl rfl (fun g => .pointer (some ⟨g, 0, none⟩)) (d_alloc (z := .agg #[.bool false, .slice none 0 0, .slice none 0 0, .bool false, .slice none 0 0, .slice none 0 0]) (by kernel_rfl) rfl) rfl ?_
 intro g6 w7 hS a hA
 refine seq_new (vs := [.bool false, .slice none 0 0, .slice none 0 0, .bool false, .slice none 0 0, .slice none 0 0]) (t := 26) hA hS rfl rfl rfl (fun g => .pointer (some ⟨g, 0, none⟩)) (d_alloc (z := .agg #[.bool false, .slice none 0 0, .slice none 0 0, .bool false, .slice none 0 0, .slice none 0 0]) (by kernel_rfl) rfl) rfl ?_
 intro g8 w9 hS a hA
 refine seq_do hA rfl rfl rfl (d_assign rfl) ?_
 intro a hA
 refine seq_end ?_
 refine hK1 _ _ ?_
 refine wp_seq_k (fun K10 hK10 => ?_)
 refine wp_seq_k (fun K11 hK11 => ?_)
 refine wp_region_lit ?_
 refine seq_do hA rfl rfl rfl (d_loadS hS SmF_isS_26 rfl 3 rfl (cs := [.bool p.b1, .slice a1 p.t1.length ac1, .slice a2 p.q1.length ac2, .bool p.b2, .slice a3 p.t2.length ac3, .slice a4 p.q2.length ac4]) rfl rfl) ?_
 intro a hA
 refine seq_call hA rfl rfl rfl (enters_func  rfl rfl (fun w => by kernel_rfl)) (rsoundQ_any (show Nm _ p a1 ac1 a2 ac2 a3 ac3 a4 ac4 from ⟨⟨(hS.rd 7 rfl), ha.s1.nil, ha.s1.cap⟩, ⟨(hS.rd 6 rfl), ha.s2.nil, ha.s2.cap⟩, ⟨(hS.rd 5 rfl), ha.s3.nil, ha.s3.cap⟩, ⟨(hS.rd 4 rfl), ha.s4.nil, ha.s4.cap⟩⟩) hl h1) ?_
 rintro _ w13 ⟨rfl, hb12⟩
 replace hS := hS.call hb12
 refine ⟨_, rfl, ?_⟩
 intro a hA
 refine seq_do (v := .bool false) hA rfl rfl rfl (d_un rfl un_not) ?_
 intro a hA
 refine seq_do hA rfl rfl rfl (d_move rfl) ?_
 intro a hA
 refine seq_do hA rfl rfl rfl (d_loadS hS SmF_isS_26 rfl 2 rfl (cs := [.bool q.b1, .slice u1 q.t1.length uc1, .slice u2 q.q1.length uc2, .bool q.b2, .slice u3 q.t2.length uc3, .slice u4 q.q2.length uc4]) rfl rfl) ?_
 intro a hA
 refine seq_call hA rfl rfl rfl (enters_func  rfl rfl (fun w => by kernel_rfl)) (rsoundQ_any (show Nm _ q u1 uc1 u2 uc2 u3 uc3 u4 uc4 from ⟨⟨(hS.rd 3 rfl), hb.s1.nil, hb.s1.cap⟩, ⟨(hS.rd 2 rfl), hb.s2.nil, hb.s2.cap⟩, ⟨(hS.rd 1 rfl), hb.s3.nil, hb.s3.cap⟩, ⟨(hS.rd 0 rfl), hb.s4.nil, hb.s4.cap⟩⟩) hm h2) ?_
 rintro _ w15 ⟨rfl, hb14⟩
 replace hS := hS.call hb14
 refine ⟨_, rfl, ?_⟩
 intro a hA
 refine seq_do (v := .bool true) hA rfl rfl rfl (d_un rfl un_not) ?_
 intro a hA
 refine seq_do (v := .bool true) hA rfl rfl rfl (d_pick rfl rfl rfl rfl) ?_
 intro a hA
 refine seq_end ?_
 refine hK11 _ _ ?_
 refine wp_cond_true (hA.ev rfl) ?_
 refine wp_seq_k (fun K16 hK16 => ?_)
 refine wp_region_lit ?_
 refine seq_do (v := .agg #[.bool false, .slice none 0 0, .slice none 0 0, .bool false, .slice none 0 0, .slice none 0 0]) hA rfl rfl rfl (d_build rfl (fun w => by kernel_rfl)) ?_
 intro a hA
 refine seq_do (v := .agg #[.bool false, .slice none 0 0, .slice none 0 0, .bool false, .slice none 0 0, .slice none 0 0]) hA rfl rfl rfl (d_build rfl (fun w => by kernel_rfl)) ?_
 intro a hA
 refine seq_store (us := [.bool false, .slice none 0 0, .slice none 0 0, .bool false, .slice none 0 0, .slice none 0 0]) hA hS rfl rfl (sets_store rfl rfl rfl (by kernel_rfl) hS 1 rfl rfl rfl) 1 rfl rfl rfl rfl ?_
 intro w17 hS
 refine seq_store (us := [.bool false, .slice none 0 0, .slice none 0 0, .bool false, .slice none 0 0, .slice none 0 0]) hA hS rfl rfl (sets_store rfl rfl rfl (by kernel_rfl) hS 0 rfl rfl rfl) 0 rfl rfl rfl rfl ?_
 intro w18 hS
 refine seq_do hA rfl rfl rfl (d_assign rfl) ?_
 intro a hA
 refine seq_end ?_
 refine hK16 _ _ ?_
 refine wp_ret ?_
 refine hret _ _ ?_
 refine ends (v := .tuple #[.agg #[.bool false, .slice none 0 0, .slice none 0 0, .bool false, .slice none 0 0, .slice none 0 0], .agg #[.bool false, .slice none 0 0, .slice none 0 0, .bool false, .slice none 0 0, .slice none 0 0], .int .i64 2]) hA rfl (.cons (res_cell hS SmF_isS_26 rfl 1 rfl (cs := [.bool false, .slice none 0 0, .slice none 0 0, .bool false, .slice none 0 0, .slice none 0 0]) rfl rfl) (.cons (res_cell hS SmF_isS_26 rfl 0 rfl (cs := [.bool false, .slice none 0 0, .slice none 0 0, .bool false, .slice none 0 0, .slice none 0 0]) rfl rfl) (.cons (res_tmp rfl) .nil))) rfl ?_
 exact ⟨none, 0, none, 0, none, 0, none, 0, none, 0, none, 0, none, 0, none, 0, rfl, ⟨(Sc.none _), (Sc.none _), (Sc.none _), (Sc.none _)⟩, ⟨(Sc.none _), (Sc.none _), (Sc.none _), (Sc.none _)⟩, hS.bel⟩
theorem rdmE2_any {w : World} {p q : Q6} {a1 a2 a3 a4 : Option Addr} {ac1 ac2 ac3 ac4 : Nat} (ha : Nm w p a1 ac1 a2 ac2 a3 ac3 a4 ac4) (hl : LenQ p) {u1 u2 u3 u4 : Option Addr} {uc1 uc2 uc3 uc4 : Nat} (hb : Nm w q u1 uc1 u2 uc2 u3 uc3 u4 uc4) (hm : LenQ q) (h1 : soundQ p = true) (h2 : soundQ q = true) (h3 : decide (p.t2.length = 0) = false) : Calls Tryz.prog 29 #[numV p a1 ac1 a2 ac2 a3 ac3 a4 ac4, numV q u1 uc1 u2 uc2 u3 uc3 u4 uc4] w (AnsNN w (Q6.zero, Q6.zero, 10)) := by
 have hS : St w w [] [(u4, q.q2), (u3, q.t2), (u2, q.q1), (u1, q.t1), (a4, p.q2), (a3, p.t2), (a2, p.q1), (a1, p.t1)] [] := ((((((((St.start w).addR ha.s1.rd).addR ha.s2.rd).addR ha.s3.rd).addR ha.s4.rd).addR hb.s1.rd).addR hb.s2.rd).addR hb.s3.rd).addR hb.s4.rd
 refine walk_of (l := [(0, .agg #[.bool p.b1, .slice a1 p.t1.length ac1, .slice a2 p.q1.length ac2, .bool p.b2, .slice a3 p.t2.length ac3, .slice a4 p.q2.length ac4]), (1, .agg #[.bool q.b1, .slice u1 q.t1.length uc1, .slice u2 q.q1.length uc2, .bool q.b2, .slice u3 q.t2.length uc3, .slice u4 q.q2.length uc4])]) Tryz.func29 rfl Tryz.ntmps29 rfl rfl ?_
 intro Q hret hnorm hP a hA
 refine wp_seq_k (fun K1 hK1 => ?_)
 refine wp_region_lit ?_
 refine seq_new hA hS rfl rfl rfl (fun g => .pointer (some ⟨g, 0, none⟩)) (d_box rfl rfl) rfl ?_
 intro g2 w3 hS a hA
 refine seq_new hA hS rfl rfl rfl (fun g => .pointer (some ⟨g, 0, none⟩)) (d_box rfl rfl) rfl ?_
 intro g4 w5 hS a hA
 refine seq_new (vs := [.bool false, .slice none 0 0, .slice none 0 0, .bool false, .slice none 0 0, .slice none 0 0]) (t := 26) hA hS rfl rfl rfl (fun g => .pointer (some ⟨g, 0, none⟩)) (d_alloc (z := .agg #[.bool false, .slice none 0 0, .slice none 0 0, .bool false, .slice none 0 0, .slice none 0 0]) (by kernel_rfl) rfl) rfl ?_
 intro g6 w7 hS a hA
 refine seq_new (vs := [.bool false, .slice none 0 0, .slice none 0 0, .bool false, .slice none 0 0, .slice none 0 0]) (t := 26) hA hS rfl rfl rfl (fun g => .pointer (some ⟨g, 0, none⟩)) (d_alloc (z := .agg #[.bool false, .slice none 0 0, .slice none 0 0, .bool false, .slice none 0 0, .slice none 0 0]) (by kernel_rfl) rfl) rfl ?_
 intro g8 w9 hS a hA
 refine seq_do hA rfl rfl rfl (d_assign rfl) ?_
 intro a hA
 refine seq_end ?_
 refine hK1 _ _ ?_
 refine wp_seq_k (fun K10 hK10 => ?_)
 refine wp_seq_k (fun K11 hK11 => ?_)
 refine wp_region_lit ?_
 refine seq_do hA rfl rfl rfl (d_loadS hS SmF_isS_26 rfl 3 rfl (cs := [.bool p.b1, .slice a1 p.t1.length ac1, .slice a2 p.q1.length ac2, .bool p.b2, .slice a3 p.t2.length ac3, .slice a4 p.q2.length ac4]) rfl rfl) ?_
 intro a hA
 refine seq_call hA rfl rfl rfl (enters_func  rfl rfl (fun w => by kernel_rfl)) (rsoundQ_any (show Nm _ p a1 ac1 a2 ac2 a3 ac3 a4 ac4 from ⟨⟨(hS.rd 7 rfl), ha.s1.nil, ha.s1.cap⟩, ⟨(hS.rd 6 rfl), ha.s2.nil, ha.s2.cap⟩, ⟨(hS.rd 5 rfl), ha.s3.nil, ha.s3.cap⟩, ⟨(hS.rd 4 rfl), ha.s4.nil, ha.s4.cap⟩⟩) hl h1) ?_
 rintro _ w13 ⟨rfl, hb12⟩
 replace hS := hS.call hb12
 refine ⟨_, rfl, ?_⟩
 intro a hA
 refine seq_do (v := .bool false) hA rfl rfl rfl (d_un rfl un_not) ?_
 intro a hA
 refine seq_do hA rfl rfl rfl (d_move rfl) ?_
 intro a hA
 refine seq_do hA rfl rfl rfl (d_loadS hS SmF_isS_26 rfl 2 rfl (cs := [.bool q.b1, .slice u1 q.t1.length uc1, .slice u2 q.q1.length uc2, .bool q.b2, .slice u3 q.t2.length uc3, .slice u4 q.q2.length uc4]) rfl rfl) ?_
 intro a hA
 refine seq_call hA rfl rfl rfl (enters_func  rfl rfl (fun w => by kernel_rfl)) (rsoundQ_any (show Nm _ q u1 uc1 u2 uc2 u3 uc3 u4 uc4 from ⟨⟨(hS.rd 3 rfl), hb.s1.nil, hb.s1.cap⟩, ⟨(hS.rd 2 rfl), hb.s2.nil, hb.s2.cap⟩, ⟨(hS.rd 1 rfl), hb.s3.nil, hb.s3.cap⟩, ⟨(hS.rd 0 rfl), hb.s4.nil, hb.s4.cap⟩⟩) hm h2) ?_
 rintro _ w15 ⟨rfl, hb14⟩
 replace hS := hS.call hb14
 refine ⟨_, rfl, ?_⟩
 intro a hA
 refine seq_do (v := .bool false) hA rfl rfl rfl (d_un rfl un_not) ?_
 intro a hA
 refine seq_do (v := .bool false) hA rfl rfl rfl (d_pick rfl rfl rfl rfl) ?_
 intro a hA
 refine seq_end ?_
 refine hK11 _ _ ?_
 refine wp_cond_false (hA.ev rfl) ?_
 refine wp_skip ?_
 refine hK10 _ _ ?_
 refine wp_seq_k (fun K16 hK16 => ?_)
 refine wp_seq_k (fun K17 hK17 => ?_)
 refine wp_region_lit ?_
 refine seq_do hA rfl rfl rfl (d_loadS hS SmF_isS_26 rfl 3 rfl (cs := [.bool p.b1, .slice a1 p.t1.length ac1, .slice a2 p.q1.length ac2, .bool p.b2, .slice a3 p.t2.length ac3, .slice a4 p.q2.length ac4]) rfl rfl) ?_
 intro a hA
 refine seq_call hA rfl rfl rfl (enters_func  rfl rfl (fun w => by kernel_rfl)) (rrealQ_any (show Nm _ p a1 ac1 a2 ac2 a3 ac3 a4 ac4 from ⟨⟨(hS.rd 7 rfl), ha.s1.nil, ha.s1.cap⟩, ⟨(hS.rd 6 rfl), ha.s2.nil, ha.s2.cap⟩, ⟨(hS.rd 5 rfl), ha.s3.nil, ha.s3.cap⟩, ⟨(hS.rd 4 rfl), ha.s4.nil, ha.s4.cap⟩⟩) hl h3) ?_
 rintro _ w19 ⟨rfl, hb18⟩
 replace hS := hS.call hb18
 refine ⟨_, rfl, ?_⟩
 intro a hA
 refine seq_do (v := .bool true) hA rfl rfl rfl (d_un rfl un_not) ?_
 intro a hA
 refine seq_do hA rfl rfl rfl (d_move rfl) ?_
 intro a hA
 refine seq_skip hA rfl rfl rfl ?_
 intro a hA
 refine seq_skip hA rfl rfl rfl ?_
 intro a hA
 refine seq_skip hA rfl rfl rfl ?_
 intro a hA
 refine seq_do (v := .bool true) hA rfl rfl rfl (d_pick rfl rfl rfl rfl) ?_
 intro a hA
 refine seq_end ?_
 refine hK17 _ _ ?_
 refine wp_cond_true (hA.ev rfl) ?_
 refine wp_seq_k (fun K20 hK20 => ?_)
 refine wp_region_lit ?_
 refine seq_do (v := .agg #[.bool false, .slice none 0 0, .slice none 0 0, .bool false, .slice none 0 0, .slice none 0 0]) hA rfl rfl rfl (d_build rfl (fun w => by kernel_rfl)) ?_
 intro a hA
 refine seq_do (v := .agg #[.bool false, .slice none 0 0, .slice none 0 0, .bool false, .slice none 0 0, .slice none 0 0]) hA rfl rfl rfl (d_build rfl (fun w => by kernel_rfl)) ?_
 intro a hA
 refine seq_store (us := [.bool false, .slice none 0 0, .slice none 0 0, .bool false, .slice none 0 0, .slice none 0 0]) hA hS rfl rfl (sets_store rfl rfl rfl (by kernel_rfl) hS 1 rfl rfl rfl) 1 rfl rfl rfl rfl ?_
 intro w21 hS
 refine seq_store (us := [.bool false, .slice none 0 0, .slice none 0 0, .bool false, .slice none 0 0, .slice none 0 0]) hA hS rfl rfl (sets_store rfl rfl rfl (by kernel_rfl) hS 0 rfl rfl rfl) 0 rfl rfl rfl rfl ?_
 intro w22 hS
 refine seq_do hA rfl rfl rfl (d_assign rfl) ?_
 intro a hA
 refine seq_end ?_
 refine hK20 _ _ ?_
 refine wp_ret ?_
 refine hret _ _ ?_
 refine ends (v := .tuple #[.agg #[.bool false, .slice none 0 0, .slice none 0 0, .bool false, .slice none 0 0, .slice none 0 0], .agg #[.bool false, .slice none 0 0, .slice none 0 0, .bool false, .slice none 0 0, .slice none 0 0], .int .i64 10]) hA rfl (.cons (res_cell hS SmF_isS_26 rfl 1 rfl (cs := [.bool false, .slice none 0 0, .slice none 0 0, .bool false, .slice none 0 0, .slice none 0 0]) rfl rfl) (.cons (res_cell hS SmF_isS_26 rfl 0 rfl (cs := [.bool false, .slice none 0 0, .slice none 0 0, .bool false, .slice none 0 0, .slice none 0 0]) rfl rfl) (.cons (res_tmp rfl) .nil))) rfl ?_
 exact ⟨none, 0, none, 0, none, 0, none, 0, none, 0, none, 0, none, 0, none, 0, rfl, ⟨(Sc.none _), (Sc.none _), (Sc.none _), (Sc.none _)⟩, ⟨(Sc.none _), (Sc.none _), (Sc.none _), (Sc.none _)⟩, hS.bel⟩
theorem rdmE3_any {w : World} {p q : Q6} {a1 a2 a3 a4 : Option Addr} {ac1 ac2 ac3 ac4 : Nat} (ha : Nm w p a1 ac1 a2 ac2 a3 ac3 a4 ac4) (hl : LenQ p) {u1 u2 u3 u4 : Option Addr} {uc1 uc2 uc3 uc4 : Nat} (hb : Nm w q u1 uc1 u2 uc2 u3 uc3 u4 uc4) (hm : LenQ q) (h1 : soundQ p = true) (h2 : soundQ q = true) (h3 : decide (p.t2.length = 0) = true) (h4 : decide (q.t2.length = 0) = false) : Calls Tryz.prog 29 #[numV p a1 ac1 a2 ac2 a3 ac3 a4 ac4, numV q u1 uc1 u2 uc2 u3 uc3 u4 uc4] w (AnsNN w (Q6.zero, Q6.zero, 10)) := by
 have hS : St w w [] [(u4, q.q2), (u3, q.t2), (u2, q.q1), (u1, q.t1), (a4, p.q2), (a3, p.t2), (a2, p.q1), (a1, p.t1)] [] := ((((((((St.start w).addR ha.s1.rd).addR ha.s2.rd).addR ha.s3.rd).addR ha.s4.rd).addR hb.s1.rd).addR hb.s2.rd).addR hb.s3.rd).addR hb.s4.rd
 refine walk_of (l := [(0, .agg #[.bool p.b1, .slice a1 p.t1.length ac1, .slice a2 p.q1.length ac2, .bool p.b2, .slice a3 p.t2.length ac3, .slice a4 p.q2.length ac4]), (1, .agg #[.bool q.b1, .slice u1 q.t1.length uc1, .slice u2 q.q1.length uc2, .bool q.b2, .slice u3 q.t2.length uc3, .slice u4 q.q2.length uc4])]) Tryz.func29 rfl Tryz.ntmps29 rfl rfl ?_
 intro Q hret hnorm hP a hA
 refine wp_seq_k (fun K1 hK1 => ?_)
 refine wp_region_lit ?_
 refine seq_new hA hS rfl rfl rfl (fun g => .pointer (some ⟨g, 0, none⟩)) (d_box rfl rfl) rfl ?_
 intro g2 w3 hS a hA
 refine seq_new hA hS rfl rfl rfl (fun g => .pointer (some ⟨g, 0, none⟩)) (d_box rfl rfl) rfl ?_
 intro g4 w5 hS a hA
 refine seq_new (vs := [.bool false, .slice none 0 0, .slice none 0 0, .bool false, .slice none 0 0, .slice none 0 0]) (t := 26) hA hS rfl rfl rfl (fun g => .pointer (some ⟨g, 0, none⟩)) (d_alloc (z := .agg #[.bool false, .slice none 0 0, .slice none 0 0, .bool false, .slice none 0 0, .slice none 0 0]) (by kernel_rfl) rfl) rfl ?_
 intro g6 w7 hS a hA
 refine seq_new (vs := [.bool false, .slice none 0 0, .slice none 0 0, .bool false, .slice none 0 0, .slice none 0 0]) (t := 26) hA hS rfl rfl rfl (fun g => .pointer (some ⟨g, 0, none⟩)) (d_alloc (z := .agg #[.bool false, .slice none 0 0, .slice none 0 0, .bool false, .slice none 0 0, .slice none 0 0]) (by kernel_rfl) rfl) rfl ?_
 intro g8 w9 hS a hA
 refine seq_do hA rfl rfl rfl (d_assign rfl) ?_
 intro a hA
 refine seq_end ?_
 refine hK1 _ _ ?_
 refine wp_seq_k (fun K10 hK10 => ?_)
 refine wp_seq_k (fun K11 hK11 => ?_)
 refine wp_region_lit ?_
 refine seq_do hA rfl rfl rfl (d_loadS hS SmF_isS_26 rfl 3 rfl (cs := [.bool p.b1, .slice a1 p.t1.length ac1, .slice a2 p.q1.length ac2, .bool p.b2, .slice a3 p.t2.length ac3, .slice a4 p.q2.length ac4]) rfl rfl) ?_
 intro a hA
 refine seq_call hA rfl rfl rfl (enters_func  rfl rfl (fun w => by kernel_rfl)) (rsoundQ_any (show Nm _ p a1 ac1 a2 ac2 a3 ac3 a4 ac4 from ⟨⟨(hS.rd 7 rfl), ha.s1.nil, ha.s1.cap⟩, ⟨(hS.rd 6 rfl), ha.s2.nil, ha.s2.cap⟩, ⟨(hS.rd 5 rfl), ha.s3.nil, ha.s3.cap⟩, ⟨(hS.rd 4 rfl), ha.s4.nil, ha.s4.cap⟩⟩) hl h1) ?_
 rintro _ w13 ⟨rfl, hb12⟩
 replace hS := hS.call hb12
 refine ⟨_, rfl, ?_⟩
 intro a hA
 refine seq_do (v := .bool false) hA rfl rfl rfl (d_un rfl un_not) ?_
 intro a hA
 refine seq_do hA rfl rfl rfl (d_move rfl) ?_
 intro a hA
 refine seq_do hA rfl rfl rfl (d_loadS hS SmF_isS_26 rfl 2 rfl (cs := [.bool q.b1, .slice u1 q.t1.length uc1, .slice u2 q.q1.length uc2, .bool q.b2, .slice u3 q.t2.length uc3, .slice u4 q.q2.length uc4]) rfl rfl) ?_
 intro a hA
 refine seq_call hA rfl rfl rfl (enters_func  rfl rfl (fun w => by kernel_rfl)) (rsoundQ_any (show Nm _ q u1 uc1 u2 uc2 u3 uc3 u4 uc4 from ⟨⟨(hS.rd 3 rfl), hb.s1.nil, hb.s1.cap⟩, ⟨(hS.rd 2 rfl), hb.s2.nil, hb.s2.cap⟩, ⟨(hS.rd 1 rfl), hb.s3.nil, hb.s3.cap⟩, ⟨(hS.rd 0 rfl), hb.s4.nil, hb.s4.cap⟩⟩) hm h2) ?_
 rintro _ w15 ⟨rfl, hb14⟩
 replace hS := hS.call hb14
 refine ⟨_, rfl, ?_⟩
 intro a hA
 refine seq_do (v := .bool false) hA rfl rfl rfl (d_un rfl un_not) ?_
 intro a hA
 refine seq_do (v := .bool false) hA rfl rfl rfl (d_pick rfl rfl rfl rfl) ?_
 intro a hA
 refine seq_end ?_
 refine hK11 _ _ ?_
 refine wp_cond_false (hA.ev rfl) ?_
 refine wp_skip ?_
 refine hK10 _ _ ?_
 refine wp_seq_k (fun K16 hK16 => ?_)
 refine wp_seq_k (fun K17 hK17 => ?_)
 refine wp_region_lit ?_
 refine seq_do hA rfl rfl rfl (d_loadS hS SmF_isS_26 rfl 3 rfl (cs := [.bool p.b1, .slice a1 p.t1.length ac1, .slice a2 p.q1.length ac2, .bool p.b2, .slice a3 p.t2.length ac3, .slice a4 p.q2.length ac4]) rfl rfl) ?_
 intro a hA
 refine seq_call hA rfl rfl rfl (enters_func  rfl rfl (fun w => by kernel_rfl)) (rrealQ_any (show Nm _ p a1 ac1 a2 ac2 a3 ac3 a4 ac4 from ⟨⟨(hS.rd 7 rfl), ha.s1.nil, ha.s1.cap⟩, ⟨(hS.rd 6 rfl), ha.s2.nil, ha.s2.cap⟩, ⟨(hS.rd 5 rfl), ha.s3.nil, ha.s3.cap⟩, ⟨(hS.rd 4 rfl), ha.s4.nil, ha.s4.cap⟩⟩) hl h3) ?_
 rintro _ w19 ⟨rfl, hb18⟩
 replace hS := hS.call hb18
 refine ⟨_, rfl, ?_⟩
 intro a hA
 refine seq_do (v := .bool false) hA rfl rfl rfl (d_un rfl un_not) ?_
 intro a hA
 refine seq_do hA rfl rfl rfl (d_move rfl) ?_
 intro a hA
 refine seq_do hA rfl rfl rfl (d_loadS hS SmF_isS_26 rfl 2 rfl (cs := [.bool q.b1, .slice u1 q.t1.length uc1, .slice u2 q.q1.length uc2, .bool q.b2, .slice u3 q.t2.length uc3, .slice u4 q.q2.length uc4]) rfl rfl) ?_
 intro a hA
 refine seq_call hA rfl rfl rfl (enters_func  rfl rfl (fun w => by kernel_rfl)) (rrealQ_any (show Nm _ q u1 uc1 u2 uc2 u3 uc3 u4 uc4 from ⟨⟨(hS.rd 3 rfl), hb.s1.nil, hb.s1.cap⟩, ⟨(hS.rd 2 rfl), hb.s2.nil, hb.s2.cap⟩, ⟨(hS.rd 1 rfl), hb.s3.nil, hb.s3.cap⟩, ⟨(hS.rd 0 rfl), hb.s4.nil, hb.s4.cap⟩⟩) hm h4) ?_
 rintro _ w21 ⟨rfl, hb20⟩
 replace hS := hS.call hb20
 refine ⟨_, rfl, ?_⟩
 intro a hA
 refine seq_do (v := .bool true) hA rfl rfl rfl (d_un rfl un_not) ?_
 intro a hA
 refine seq_do (v := .bool true) hA rfl rfl rfl (d_pick rfl rfl rfl rfl) ?_
 intro a hA
 refine seq_end ?_
 refine hK17 _ _ ?_
 refine wp_cond_true (hA.ev rfl) ?_
 refine wp_seq_k (fun K22 hK22 => ?_)
 refine wp_region_lit ?_
 refine seq_do (v := .agg #[.bool false, .slice none 0 0, .slice none 0 0, .bool false, .slice none 0 0, .slice none 0 0]) hA rfl rfl rfl (d_build rfl (fun w => by kernel_rfl)) ?_
 intro a hA
 refine seq_do (v := .agg #[.bool false, .slice none 0 0, .slice none 0 0, .bool false, .slice none 0 0, .slice none 0 0]) hA rfl rfl rfl (d_build rfl (fun w => by kernel_rfl)) ?_
 intro a hA
 refine seq_store (us := [.bool false, .slice none 0 0, .slice none 0 0, .bool false, .slice none 0 0, .slice none 0 0]) hA hS rfl rfl (sets_store rfl rfl rfl (by kernel_rfl) hS 1 rfl rfl rfl) 1 rfl rfl rfl rfl ?_
 intro w23 hS
 refine seq_store (us := [.bool false, .slice none 0 0, .slice none 0 0, .bool false, .slice none 0 0, .slice none 0 0]) hA hS rfl rfl (sets_store rfl rfl rfl (by kernel_rfl) hS 0 rfl rfl rfl) 0 rfl rfl rfl rfl ?_
 intro w24 hS
 refine seq_do hA rfl rfl rfl (d_assign rfl) ?_
 intro a hA
 refine seq_end ?_
 refine hK22 _ _ ?_
 refine wp_ret ?_
 refine hret _ _ ?_
 refine ends (v := .tuple #[.agg #[.bool false, .slice none 0 0, .slice none 0 0, .bool false, .slice none 0 0, .slice none 0 0], .agg #[.bool false, .slice none 0 0, .slice none 0 0, .bool false, .slice none 0 0, .slice none 0 0], .int .i64 10]) hA rfl (.cons (res_cell hS SmF_isS_26 rfl 1 rfl (cs := [.bool false, .slice none 0 0, .slice none 0 0, .bool false, .slice none 0 0, .slice none 0 0]) rfl rfl) (.cons (res_cell hS SmF_isS_26 rfl 0 rfl (cs := [.bool false, .slice none 0 0, .slice none 0 0, .bool false, .slice none 0 0, .slice none 0 0]) rfl rfl) (.cons (res_tmp rfl) .nil))) rfl ?_
 exact ⟨none, 0, none, 0, none, 0, none, 0, none, 0, none, 0, none, 0, none, 0, rfl, ⟨(Sc.none _), (Sc.none _), (Sc.none _), (Sc.none _)⟩, ⟨(Sc.none _), (Sc.none _), (Sc.none _), (Sc.none _)⟩, hS.bel⟩
theorem rdmZ_any {w : World} {u v x y : Rat} {a1 a2 a3 a4 : Option Addr} {ac1 ac2 ac3 ac4 : Nat} (ha : Nm w (Q6.rat u v) a1 ac1 a2 ac2 a3 ac3 a4 ac4) {u1 u2 u3 u4 : Option Addr} {uc1 uc2 uc3 uc4 : Nat} (hb : Nm w (Q6.rat x y) u1 uc1 u2 uc2 u3 uc3 u4 uc4) (hu : fitR u) (hv : fitR v) (hx : fitR x) (hy : fitR y) (k1 : decide ((Q6.rat u v).t2.length = 0) = true) (k2 : decide ((Q6.rat x y).t2.length = 0) = true) (hz : x = 0 ∧ y = 0) : Calls Tryz.prog 29 #[numV (Q6.rat u v) a1 ac1 a2 ac2 a3 ac3 a4 ac4, numV (Q6.rat x y) u1 uc1 u2 uc2 u3 uc3 u4 uc4] w (AnsNN w (Q6.zero, Q6.zero, 3)) := by
 have hS : St w w [] [(u4, words y.den), (u3, words y.num.natAbs), (u2, words x.den), (u1, words x.num.natAbs), (a4, words v.den), (a3, words v.num.natAbs), (a2, words u.den), (a1, words u.num.natAbs)] [] := ((((((((St.start w).addR ha.s1.rd).addR ha.s2.rd).addR ha.s3.rd).addR ha.s4.rd).addR hb.s1.rd).addR hb.s2.rd).addR hb.s3.rd).addR hb.s4.rd
 refine walk_of (l := [(0, .agg #[.bool (rb u.num), .slice a1 ((words u.num.natAbs).length) ac1, .slice a2 ((words u.den).length) ac2, .bool (rb v.num), .slice a3 ((words v.num.natAbs).length) ac3, .slice a4 ((words v.den).length) ac4]), (1, .agg #[.bool (rb x.num), .slice u1 ((words x.num.natAbs).length) uc1, .slice u2 ((words x.den).length) uc2, .bool (rb y.num), .slice u3 ((words y.num.natAbs).length) uc3, .slice u4 ((words y.den).length) uc4])]) Tryz.func29 rfl Tryz.ntmps29 rfl rfl ?_
 intro Q hret hnorm hP a hA
 refine wp_seq_k (fun K1 hK1 => ?_)
 refine wp_region_lit ?_
 refine seq_new hA hS rfl rfl rfl (fun g => .pointer (some ⟨g, 0, none⟩)) (d_box rfl rfl) rfl ?_
 intro g2 w3 hS a hA
 refine seq_new hA hS rfl rfl rfl (fun g => .pointer (some ⟨g, 0, none⟩)) (d_box rfl rfl) rfl ?_
 intro g4 w5 hS a hA
 refine seq_new (vs := [.bool false, .slice none 0 0, .slice none 0 0, .bool false, .slice none 0 0, .slice none 0 0]) (t := 26) hA hS rfl rfl rfl (fun g => .pointer (some ⟨g, 0, none⟩)) (d_alloc (z := .agg #[.bool false, .slice none 0 0, .slice none 0 0, .bool false, .slice none 0 0, .slice none 0 0]) (by kernel_rfl) rfl) rfl ?_
 intro g6 w7 hS a hA
 refine seq_new (vs := [.bool false, .slice none 0 0, .slice none 0 0, .bool false, .slice none 0 0, .slice none 0 0]) (t := 26) hA hS rfl rfl rfl (fun g => .pointer (some ⟨g, 0, none⟩)) (d_alloc (z := .agg #[.bool false, .slice none 0 0, .slice none 0 0, .bool false, .slice none 0 0, .slice none 0 0]) (by kernel_rfl) rfl) rfl ?_
 intro g8 w9 hS a hA
 refine seq_do hA rfl rfl rfl (d_assign rfl) ?_
 intro a hA
 refine seq_end ?_
 refine hK1 _ _ ?_
 refine wp_seq_k (fun K10 hK10 => ?_)
 refine wp_seq_k (fun K11 hK11 => ?_)
 refine wp_region_lit ?_
 refine seq_do hA rfl rfl rfl (d_loadS hS SmF_isS_26 rfl 3 rfl (cs := [.bool (rb u.num), .slice a1 ((words u.num.natAbs).length) ac1, .slice a2 ((words u.den).length) ac2, .bool (rb v.num), .slice a3 ((words v.num.natAbs).length) ac3, .slice a4 ((words v.den).length) ac4]) rfl rfl) ?_
 intro a hA
 refine seq_call hA rfl rfl rfl (enters_func  rfl rfl (fun w => by kernel_rfl)) (rsoundQ_any (show Nm _ (Q6.rat u v) a1 ac1 a2 ac2 a3 ac3 a4 ac4 from ⟨⟨(hS.rd 7 rfl), ha.s1.nil, ha.s1.cap⟩, ⟨(hS.rd 6 rfl), ha.s2.nil, ha.s2.cap⟩, ⟨(hS.rd 5 rfl), ha.s3.nil, ha.s3.cap⟩, ⟨(hS.rd 4 rfl), ha.s4.nil, ha.s4.cap⟩⟩) (lenQ_rat hu hv) (soundQ_rat hu hv)) ?_
 rintro _ w13 ⟨rfl, hb12⟩
 replace hS := hS.call hb12
 refine ⟨_, rfl, ?_⟩
 intro a hA
 refine seq_do (v := .bool false) hA rfl rfl rfl (d_un rfl un_not) ?_
 intro a hA
 refine seq_do hA rfl rfl rfl (d_move rfl) ?_
 intro a hA
 refine seq_do hA rfl rfl rfl (d_loadS hS SmF_isS_26 rfl 2 rfl (cs := [.bool (rb x.num), .slice u1 ((words x.num.natAbs).length) uc1, .slice u2 ((words x.den).length) uc2, .bool (rb y.num), .slice u3 ((words y.num.natAbs).length) uc3, .slice u4 ((words y.den).length) uc4]) rfl rfl) ?_
 intro a hA
 refine seq_call hA rfl rfl rfl (enters_func  rfl rfl (fun w => by kernel_rfl)) (rsoundQ_any (show Nm _ (Q6.rat x y) u1 uc1 u2 uc2 u3 uc3 u4 uc4 from ⟨⟨(hS.rd 3 rfl), hb.s1.nil, hb.s1.cap⟩, ⟨(hS.rd 2 rfl), hb.s2.nil, hb.s2.cap⟩, ⟨(hS.rd 1 rfl), hb.s3.nil, hb.s3.cap⟩, ⟨(hS.rd 0 rfl), hb.s4.nil, hb.s4.cap⟩⟩) (lenQ_rat hx hy) (soundQ_rat hx hy)) ?_
 rintro _ w15 ⟨rfl, hb14⟩
 replace hS := hS.call hb14
 refine ⟨_, rfl, ?_⟩
 intro a hA
 refine seq_do (v := .bool false) hA rfl rfl rfl (d_un rfl un_not) ?_
 intro a hA
 refine seq_do (v := .bool false) hA rfl rfl rfl (d_pick rfl rfl rfl rfl) ?_
 intro a hA
 refine seq_end ?_
 refine hK11 _ _ ?_
 refine wp_cond_false (hA.ev rfl) ?_
 refine wp_skip ?_
 refine hK10 _ _ ?_
 refine wp_seq_k (fun K16 hK16 => ?_)
 refine wp_seq_k (fun K17 hK17 => ?_)
 refine wp_region_lit ?_
 refine seq_do hA rfl rfl rfl (d_loadS hS SmF_isS_26 rfl 3 rfl (cs := [.bool (rb u.num), .slice a1 ((words u.num.natAbs).length) ac1, .slice a2 ((words u.den).length) ac2, .bool (rb v.num), .slice a3 ((words v.num.natAbs).length) ac3, .slice a4 ((words v.den).length) ac4]) rfl rfl) ?_
 intro a hA
 refine seq_call hA rfl rfl rfl (enters_func  rfl rfl (fun w => by kernel_rfl)) (rrealQ_any (show Nm _ (Q6.rat u v) a1 ac1 a2 ac2 a3 ac3 a4 ac4 from ⟨⟨(hS.rd 7 rfl), ha.s1.nil, ha.s1.cap⟩, ⟨(hS.rd 6 rfl), ha.s2.nil, ha.s2.cap⟩, ⟨(hS.rd 5 rfl), ha.s3.nil, ha.s3.cap⟩, ⟨(hS.rd 4 rfl), ha.s4.nil, ha.s4.cap⟩⟩) (lenQ_rat hu hv) k1) ?_
 rintro _ w19 ⟨rfl, hb18⟩
 replace hS := hS.call hb18
 refine ⟨_, rfl, ?_⟩
 intro a hA
 refine seq_do (v := .bool false) hA rfl rfl rfl (d_un rfl un_not) ?_
 intro a hA
 refine seq_do hA rfl rfl rfl (d_move rfl) ?_
 intro a hA
 refine seq_do hA rfl rfl rfl (d_loadS hS SmF_isS_26 rfl 2 rfl (cs := [.bool (rb x.num), .slice u1 ((words x.num.natAbs).length) uc1, .slice u2 ((words x.den).length) uc2, .bool (rb y.num), .slice u3 ((words y.num.natAbs).length) uc3, .slice u4 ((words y.den).length) uc4]) rfl rfl) ?_
 intro a hA
 refine seq_call hA rfl rfl rfl (enters_func  rfl rfl (fun w => by kernel_rfl)) (rrealQ_any (show Nm _ (Q6.rat x y) u1 uc1 u2 uc2 u3 uc3 u4 uc4 from ⟨⟨(hS.rd 3 rfl), hb.s1.nil, hb.s1.cap⟩, ⟨(hS.rd 2 rfl), hb.s2.nil, hb.s2.cap⟩, ⟨(hS.rd 1 rfl), hb.s3.nil, hb.s3.cap⟩, ⟨(hS.rd 0 rfl), hb.s4.nil, hb.s4.cap⟩⟩) (lenQ_rat hx hy) k2) ?_
 rintro _ w21 ⟨rfl, hb20⟩
 replace hS := hS.call hb20
 refine ⟨_, rfl, ?_⟩
 intro a hA
 refine seq_do (v := .bool false) hA rfl rfl rfl (d_un rfl un_not) ?_
 intro a hA
 refine seq_do (v := .bool false) hA rfl rfl rfl (d_pick rfl rfl rfl rfl) ?_
 intro a hA
 refine seq_end ?_
 refine hK17 _ _ ?_
 refine wp_cond_false (hA.ev rfl) ?_
 refine wp_skip ?_
 refine hK16 _ _ ?_
 refine wp_seq_k (fun K22 hK22 => ?_)
 refine wp_seq_k (fun K23 hK23 => ?_)
 refine wp_region_lit ?_
 refine seq_do hA rfl rfl rfl (d_loadS hS SmF_isS_26 rfl 2 rfl (cs := [.bool (rb x.num), .slice u1 ((words x.num.natAbs).length) uc1, .slice u2 ((words x.den).length) uc2, .bool (rb y.num), .slice u3 ((words y.num.natAbs).length) uc3, .slice u4 ((words y.den).length) uc4]) rfl rfl) ?_
 intro a hA
 refine seq_call hA rfl rfl rfl (enters_func  rfl rfl (fun w => by kernel_rfl)) (risZero_any (show Nm _ (Q6.rat x y) u1 uc1 u2 uc2 u3 uc3 u4 uc4 from ⟨⟨(hS.rd 3 rfl), hb.s1.nil, hb.s1.cap⟩, ⟨(hS.rd 2 rfl), hb.s2.nil, hb.s2.cap⟩, ⟨(hS.rd 1 rfl), hb.s3.nil, hb.s3.cap⟩, ⟨(hS.rd 0 rfl), hb.s4.nil, hb.s4.cap⟩⟩) hx hy (decide_eq_true hz)) ?_
 rintro _ w25 ⟨rfl, hb24⟩
 replace hS := hS.call hb24
 refine ⟨_, rfl, ?_⟩
 intro a hA
 refine seq_end ?_
 refine hK23 _ _ ?_
 refine wp_cond_true (hA.ev rfl) ?_
 refine wp_seq_k (fun K26 hK26 => ?_)
 refine wp_region_lit ?_
 refine seq_do (v := .agg #[.bool false, .slice none 0 0, .slice none 0 0, .bool false, .slice none 0 0, .slice none 0 0]) hA rfl rfl rfl (d_build rfl (fun w => by kernel_rfl)) ?_
 intro a hA
 refine seq_do (v := .agg #[.bool false, .slice none 0 0, .slice none 0 0, .bool false, .slice none 0 0, .slice none 0 0]) hA rfl rfl rfl (d_build rfl (fun w => by kernel_rfl)) ?_
 intro a hA
 refine seq_store (us := [.bool false, .slice none 0 0, .slice none 0 0, .bool false, .slice none 0 0, .slice none 0 0]) hA hS rfl rfl (sets_store rfl rfl rfl (by kernel_rfl) hS 1 rfl rfl rfl) 1 rfl rfl rfl rfl ?_
 intro w27 hS
 refine seq_store (us := [.bool false, .slice none 0 0, .slice none 0 0, .bool false, .slice none 0 0, .slice none 0 0]) hA hS rfl rfl (sets_store rfl rfl rfl (by kernel_rfl) hS 0 rfl rfl rfl) 0 rfl rfl rfl rfl ?_
 intro w28 hS
 refine seq_do hA rfl rfl rfl (d_assign rfl) ?_
 intro a hA
 refine seq_end ?_
 refine hK26 _ _ ?_
 refine wp_ret ?_
 refine hret _ _ ?_
 refine ends (v := .tuple #[.agg #[.bool false, .slice none 0 0, .slice none 0 0, .bool false, .slice none 0 0, .slice none 0 0], .agg #[.bool false, .slice none 0 0, .slice none 0 0, .bool false, .slice none 0 0, .slice none 0 0], .int .i64 3]) hA rfl (.cons (res_cell hS SmF_isS_26 rfl 1 rfl (cs := [.bool false, .slice none 0 0, .slice none 0 0, .bool false, .slice none 0 0, .slice none 0 0]) rfl rfl) (.cons (res_cell hS SmF_isS_26 rfl 0 rfl (cs := [.bool false, .slice none 0 0, .slice none 0 0, .bool false, .slice none 0 0, .slice none 0 0]) rfl rfl) (.cons (res_tmp rfl) .nil))) rfl ?_
 exact ⟨none, 0, none, 0, none, 0, none, 0, none, 0, none, 0, none, 0, none, 0, rfl, ⟨(Sc.none _), (Sc.none _), (Sc.none _), (Sc.none _)⟩, ⟨(Sc.none _), (Sc.none _), (Sc.none _), (Sc.none _)⟩, hS.bel⟩
theorem rprodI_any {w : World} {u x : Rat} {a1 a2 : Option Addr} {ac1 ac2 : Nat} (ha1 : Sc w a1 ac1 (words u.num.natAbs)) (ha2 : Sc w a2 ac2 (words u.den)) {u1 u2 : Option Addr} {uc1 uc2 : Nat} (hu1 : Sc w u1 uc1 (words x.num.natAbs)) (hu2 : Sc w u2 uc2 (words x.den)) (l1 : LenR 4000 u) (l2 : LenR 4000 x) (hx : x ≠ 0) {r : Rat} (hr : u * (1 / absR x) = r) : Calls Tryz.prog 69 #[.agg #[.bool (rb u.num), .slice a1 (words u.num.natAbs).length ac1, .slice a2 (words u.den).length ac2], .agg #[.bool false, .slice u2 (words x.den).length uc2, .slice u1 (words x.num.natAbs).length uc1]] w (AnsFR w r) := by
  obtain ⟨i1, i2, i3⟩ := inv_parts (absR_pos hx)
  rw [absR_den] at i1
  rw [absR_num] at i2
  have h := rprodR_any (v := 1 / absR x) ha1 ha2 (by rw [i1]; exact hu2) (by rw [i2]; exact hu1) l1 (by unfold LenR; rw [i1, i2]; exact ⟨l2.2, l2.1⟩) hr
  rw [i1, i2, i3] at h
  exact h
theorem rprodA_any {w : World} {u x : Rat} {a1 a2 : Option Addr} {ac1 ac2 : Nat} (ha1 : Sc w a1 ac1 (words u.num.natAbs)) (ha2 : Sc w a2 ac2 (words u.den)) {u1 u2 : Option Addr} {uc1 uc2 : Nat} (hu1 : Sc w u1 uc1 (words x.num.natAbs)) (hu2 : Sc w u2 uc2 (words x.den)) (l1 : LenR 4000 u) (l2 : LenR 4000 x) (hx : x ≠ 0) {r : Rat} (hr : u * absR x = r) : Calls Tryz.prog 69 #[.agg #[.bool (rb u.num), .slice a1 (words u.num.natAbs).length ac1, .slice a2 (words u.den).length ac2], .agg #[.bool false, .slice u1 (words x.num.natAbs).length uc1, .slice u2 (words x.den).length uc2]] w (AnsFR w r) := by
  have h := rprodR_any (v := absR x) ha1 ha2 (by rw [absR_num]; exact hu1) (by rw [absR_den]; exact hu2) l1 (by unfold LenR; rw [absR_num, absR_den]; exact l2) hr
  rw [absR_num, absR_den, absR_rb x hx] at h
  exact h
theorem ratS0_no {u : Rat} (h : decide (¬ (fitR u ∧ fitR 0)) = true) : ratS u 0 = (Q6.zero, 4) := if_neg (of_decide_eq_true h)
theorem ratS0_ok {u : Rat} (h : decide (¬ (fitR u ∧ fitR 0)) = false) : ratS u 0 = (Q6.real u, 0) := by
  rw [show ratS u 0 = (Q6.rat u 0, 0) from if_pos (Decidable.not_not.1 (of_decide_eq_false h)), rat0_eq]
theorem dm_big1 {u v : Rat} (h : decide (¬ (fitR u ∧ fitR 0)) = true) : dmS (ratS u 0) (ratS v 0) = (Q6.zero, Q6.zero, 4) := by rw [ratS0_no h]; rfl
theorem dm_big2 {u v : Rat} (h : decide (¬ (fitR u ∧ fitR 0)) = false) (k : decide (¬ (fitR v ∧ fitR 0)) = true) : dmS (ratS u 0) (ratS v 0) = (Q6.zero, Q6.zero, 4) := by rw [ratS0_ok h, ratS0_no k]; rfl
theorem dm_fit {u v : Rat} (h : decide (¬ (fitR u ∧ fitR 0)) = false) (k : decide (¬ (fitR v ∧ fitR 0)) = false) : dmS (ratS u 0) (ratS v 0) = (Q6.real u, Q6.real v, 0) := by rw [ratS0_ok h, ratS0_ok k]; rfl
set_option maxHeartbeats 2000000 in
theorem rdmW_any {w : World} {u v x y : Rat} {a1 a2 a3 a4 : Option Addr} {ac1 ac2 ac3 ac4 : Nat} (ha : Nm w (Q6.rat u v) a1 ac1 a2 ac2 a3 ac3 a4 ac4) {u1 u2 u3 u4 : Option Addr} {uc1 uc2 uc3 uc4 : Nat} (hb : Nm w (Q6.rat x y) u1 uc1 u2 uc2 u3 uc3 u4 uc4) (hu : fitR u) (hv : fitR v) (hx : fitR x) (hy : fitR y) (k1 : decide ((Q6.rat u v).t2.length = 0) = true) (k2 : decide ((Q6.rat x y).t2.length = 0) = true) (hz : ¬ (x = 0 ∧ y = 0)) (hx0 : x ≠ 0) (LR_u : LenR 512 u) (LR_x : LenR 512 x) {p1 T p2 m2 R m1 qz : Rat} (hPr : u * (1 / absR x) = p1) (LR_p1 : LenR 2000 p1) (hT : ((floR p1 : Int) : Rat) = T) (LR_T : LenR 2000 T) (hP2 : T * absR x = p2) (LR_p2 : LenR 3000 p2) (hM : -p2 = m2) (LR_m2 : LenR 3000 m2) (hR : u + m2 = R) (LR_R : LenR 8000 R) (hM1 : -T = m1) (LR_m1 : LenR 2000 m1) (hq : (cond (rb x.num) m1 T) = qz) : Calls Tryz.prog 29 #[numV (Q6.rat u v) a1 ac1 a2 ac2 a3 ac3 a4 ac4, numV (Q6.rat x y) u1 uc1 u2 uc2 u3 uc3 u4 uc4] w (AnsNN w (dmS (ratS qz 0) (ratS R 0))) := by
 have hS : St w w [] [(u4, words y.den), (u3, words y.num.natAbs), (u2, words x.den), (u1, words x.num.natAbs), (a4, words v.den), (a3, words v.num.natAbs), (a2, words u.den), (a1, words u.num.natAbs)] [] := ((((((((St.start w).addR ha.s1.rd).addR ha.s2.rd).addR ha.s3.rd).addR ha.s4.rd).addR hb.s1.rd).addR hb.s2.rd).addR hb.s3.rd).addR hb.s4.rd
 refine walk_of (l := [(0, .agg #[.bool (rb u.num), .slice a1 ((words u.num.natAbs).length) ac1, .slice a2 ((words u.den).length) ac2, .bool (rb v.num), .slice a3 ((words v.num.natAbs).length) ac3, .slice a4 ((words v.den).length) ac4]), (1, .agg #[.bool (rb x.num), .slice u1 ((words x.num.natAbs).length) uc1, .slice u2 ((words x.den).length) uc2, .bool (rb y.num), .slice u3 ((words y.num.natAbs).length) uc3, .slice u4 ((words y.den).length) uc4])]) Tryz.func29 rfl Tryz.ntmps29 rfl rfl ?_
 intro Q hret hnorm hP a hA
 refine wp_seq_k (fun K1 hK1 => ?_)
 refine wp_region_lit ?_
 refine seq_new hA hS rfl rfl rfl (fun g => .pointer (some ⟨g, 0, none⟩)) (d_box rfl rfl) rfl ?_
 intro g2 w3 hS a hA
 refine seq_new hA hS rfl rfl rfl (fun g => .pointer (some ⟨g, 0, none⟩)) (d_box rfl rfl) rfl ?_
 intro g4 w5 hS a hA
 refine seq_new (vs := [.bool false, .slice none 0 0, .slice none 0 0, .bool false, .slice none 0 0, .slice none 0 0]) (t := 26) hA hS rfl rfl rfl (fun g => .pointer (some ⟨g, 0, none⟩)) (d_alloc (z := .agg #[.bool false, .slice none 0 0, .slice none 0 0, .bool false, .slice none 0 0, .slice none 0 0]) (by kernel_rfl) rfl) rfl ?_
 intro g6 w7 hS a hA
 refine seq_new (vs := [.bool false, .slice none 0 0, .slice none 0 0, .bool false, .slice none 0 0, .slice none 0 0]) (t := 26) hA hS rfl rfl rfl (fun g => .pointer (some ⟨g, 0, none⟩)) (d_alloc (z := .agg #[.bool false, .slice none 0 0, .slice none 0 0, .bool false, .slice none 0 0, .slice none 0 0]) (by kernel_rfl) rfl) rfl ?_
 intro g8 w9 hS a hA
 refine seq_do hA rfl rfl rfl (d_assign rfl) ?_
 intro a hA
 refine seq_end ?_
 refine hK1 _ _ ?_
 refine wp_seq_k (fun K10 hK10 => ?_)
 refine wp_seq_k (fun K11 hK11 => ?_)
 refine wp_region_lit ?_
 refine seq_do hA rfl rfl rfl (d_loadS hS SmF_isS_26 rfl 3 rfl (cs := [.bool (rb u.num), .slice a1 ((words u.num.natAbs).length) ac1, .slice a2 ((words u.den).length) ac2, .bool (rb v.num), .slice a3 ((words v.num.natAbs).length) ac3, .slice a4 ((words v.den).length) ac4]) rfl rfl) ?_
 intro a hA
 refine seq_call hA rfl rfl rfl (enters_func  rfl rfl (fun w => by kernel_rfl)) (rsoundQ_any (show Nm _ (Q6.rat u v) a1 ac1 a2 ac2 a3 ac3 a4 ac4 from ⟨⟨(hS.rd 7 rfl), ha.s1.nil, ha.s1.cap⟩, ⟨(hS.rd 6 rfl), ha.s2.nil, ha.s2.cap⟩, ⟨(hS.rd 5 rfl), ha.s3.nil, ha.s3.cap⟩, ⟨(hS.rd 4 rfl), ha.s4.nil, ha.s4.cap⟩⟩) (lenQ_rat hu hv) (soundQ_rat hu hv)) ?_
 rintro _ w13 ⟨rfl, hb12⟩
 replace hS := hS.call hb12
 refine ⟨_, rfl, ?_⟩
 intro a hA
 refine seq_do (v := .bool false) hA rfl rfl rfl (d_un rfl un_not) ?_
 intro a hA
 refine seq_do hA rfl rfl rfl (d_move rfl) ?_
 intro a hA
 refine seq_do hA rfl rfl rfl (d_loadS hS SmF_isS_26 rfl 2 rfl (cs := [.bool (rb x.num), .slice u1 ((words x.num.natAbs).length) uc1, .slice u2 ((words x.den).length) uc2, .bool (rb y.num), .slice u3 ((words y.num.natAbs).length) uc3, .slice u4 ((words y.den).length) uc4]) rfl rfl) ?_
 intro a hA
 refine seq_call hA rfl rfl rfl (enters_func  rfl rfl (fun w => by kernel_rfl)) (rsoundQ_any (show Nm _ (Q6.rat x y) u1 uc1 u2 uc2 u3 uc3 u4 uc4 from ⟨⟨(hS.rd 3 rfl), hb.s1.nil, hb.s1.cap⟩, ⟨(hS.rd 2 rfl), hb.s2.nil, hb.s2.cap⟩, ⟨(hS.rd 1 rfl), hb.s3.nil, hb.s3.cap⟩, ⟨(hS.rd 0 rfl), hb.s4.nil, hb.s4.cap⟩⟩) (lenQ_rat hx hy) (soundQ_rat hx hy)) ?_
 rintro _ w15 ⟨rfl, hb14⟩
 replace hS := hS.call hb14
 refine ⟨_, rfl, ?_⟩
 intro a hA
 refine seq_do (v := .bool false) hA rfl rfl rfl (d_un rfl un_not) ?_
 intro a hA
 refine seq_do (v := .bool false) hA rfl rfl rfl (d_pick rfl rfl rfl rfl) ?_
 intro a hA
 refine seq_end ?_
 refine hK11 _ _ ?_
 refine wp_cond_false (hA.ev rfl) ?_
 refine wp_skip ?_
 refine hK10 _ _ ?_
 refine wp_seq_k (fun K16 hK16 => ?_)
 refine wp_seq_k (fun K17 hK17 => ?_)
 refine wp_region_lit ?_
 refine seq_do hA rfl rfl rfl (d_loadS hS SmF_isS_26 rfl 3 rfl (cs := [.bool (rb u.num), .slice a1 ((words u.num.natAbs).length) ac1, .slice a2 ((words u.den).length) ac2, .bool (rb v.num), .slice a3 ((words v.num.natAbs).length) ac3, .slice a4 ((words v.den).length) ac4]) rfl rfl) ?_
 intro a hA
 refine seq_call hA rfl rfl rfl (enters_func  rfl rfl (fun w => by kernel_rfl)) (rrealQ_any (show Nm _ (Q6.rat u v) a1 ac1 a2 ac2 a3 ac3 a4 ac4 from ⟨⟨(hS.rd 7 rfl), ha.s1.nil, ha.s1.cap⟩, ⟨(hS.rd 6 rfl), ha.s2.nil, ha.s2.cap⟩, ⟨(hS.rd 5 rfl), ha.s3.nil, ha.s3.cap⟩, ⟨(hS.rd 4 rfl), ha.s4.nil, ha.s4.cap⟩⟩) (lenQ_rat hu hv) k1) ?_
 rintro _ w19 ⟨rfl, hb18⟩
 replace hS := hS.call hb18
 refine ⟨_, rfl, ?_⟩
 intro a hA
 refine seq_do (v := .bool false) hA rfl rfl rfl (d_un rfl un_not) ?_
 intro a hA
 refine seq_do hA rfl rfl rfl (d_move rfl) ?_
 intro a hA
 refine seq_do hA rfl rfl rfl (d_loadS hS SmF_isS_26 rfl 2 rfl (cs := [.bool (rb x.num), .slice u1 ((words x.num.natAbs).length) uc1, .slice u2 ((words x.den).length) uc2, .bool (rb y.num), .slice u3 ((words y.num.natAbs).length) uc3, .slice u4 ((words y.den).length) uc4]) rfl rfl) ?_
 intro a hA
 refine seq_call hA rfl rfl rfl (enters_func  rfl rfl (fun w => by kernel_rfl)) (rrealQ_any (show Nm _ (Q6.rat x y) u1 uc1 u2 uc2 u3 uc3 u4 uc4 from ⟨⟨(hS.rd 3 rfl), hb.s1.nil, hb.s1.cap⟩, ⟨(hS.rd 2 rfl), hb.s2.nil, hb.s2.cap⟩, ⟨(hS.rd 1 rfl), hb.s3.nil, hb.s3.cap⟩, ⟨(hS.rd 0 rfl), hb.s4.nil, hb.s4.cap⟩⟩) (lenQ_rat hx hy) k2) ?_
 rintro _ w21 ⟨rfl, hb20⟩
 replace hS := hS.call hb20
 refine ⟨_, rfl, ?_⟩
 intro a hA
 refine seq_do (v := .bool false) hA rfl rfl rfl (d_un rfl un_not) ?_
 intro a hA
 refine seq_do (v := .bool false) hA rfl rfl rfl (d_pick rfl rfl rfl rfl) ?_
 intro a hA
 refine seq_end ?_
 refine hK17 _ _ ?_
 refine wp_cond_false (hA.ev rfl) ?_
 refine wp_skip ?_
 refine hK16 _ _ ?_
 refine wp_seq_k (fun K22 hK22 => ?_)
 refine wp_seq_k (fun K23 hK23 => ?_)
 refine wp_region_lit ?_
 refine seq_do hA rfl rfl rfl (d_loadS hS SmF_isS_26 rfl 2 rfl (cs := [.bool (rb x.num), .slice u1 ((words x.num.natAbs).length) uc1, .slice u2 ((words x.den).length) uc2, .bool (rb y.num), .slice u3 ((words y.num.natAbs).length) uc3, .slice u4 ((words y.den).length) uc4]) rfl rfl) ?_
 intro a hA
 refine seq_call hA rfl rfl rfl (enters_func  rfl rfl (fun w => by kernel_rfl)) (risZero_any (show Nm _ (Q6.rat x y) u1 uc1 u2 uc2 u3 uc3 u4 uc4 from ⟨⟨(hS.rd 3 rfl), hb.s1.nil, hb.s1.cap⟩, ⟨(hS.rd 2 rfl), hb.s2.nil, hb.s2.cap⟩, ⟨(hS.rd 1 rfl), hb.s3.nil, hb.s3.cap⟩, ⟨(hS.rd 0 rfl), hb.s4.nil, hb.s4.cap⟩⟩) hx hy (decide_eq_false hz)) ?_
 rintro _ w25 ⟨rfl, hb24⟩
 replace hS := hS.call hb24
 refine ⟨_, rfl, ?_⟩
 intro a hA
 refine seq_end ?_
 refine hK23 _ _ ?_
 refine wp_cond_false (hA.ev rfl) ?_
 refine wp_skip ?_
 refine hK22 _ _ ?_
 refine wp_seq_k (fun K26 hK26 => ?_)
 refine wp_region_lit ?_
 refine seq_do (v := .pointer (some ⟨g4, 0, none⟩)) hA rfl rfl rfl (d_field SmF_fld_26_0 rfl rfl) ?_
 intro a hA
 refine seq_do hA rfl rfl rfl (d_loadS hS SmF_isS_24 rfl 2 rfl (cs := [.bool (rb x.num), .slice u1 ((words x.num.natAbs).length) uc1, .slice u2 ((words x.den).length) uc2]) rfl rfl) ?_
 intro a hA
 refine seq_new (vs := [.bool false, .slice none 0 0, .slice none 0 0]) (t := 24) hA hS rfl rfl rfl (fun g => .pointer (some ⟨g, 0, none⟩)) (d_alloc (z := .agg #[.bool false, .slice none 0 0, .slice none 0 0]) (by kernel_rfl) rfl) rfl ?_
 intro g27 w28 hS a hA
 refine seq_store (us := [.bool (rb x.num), .slice u1 ((words x.num.natAbs).length) uc1, .slice u2 ((words x.den).length) uc2]) hA hS rfl rfl (sets_store rfl rfl rfl (by kernel_rfl) hS 0 rfl rfl rfl) 0 rfl rfl rfl rfl ?_
 intro w29 hS
 refine seq_end ?_
 refine hK26 _ _ ?_
 refine wp_seq_k (fun K30 hK30 => ?_)
 refine wp_region_lit ?_
 refine seq_do (v := .pointer (some ⟨g27, 0, none⟩)) hA rfl rfl rfl (d_field SmF_fld_24_0 rfl rfl) ?_
 intro a hA
 refine seq_store (us := [.bool false, .slice u1 ((words x.num.natAbs).length) uc1, .slice u2 ((words x.den).length) uc2]) hA hS rfl rfl (sets_store rfl rfl rfl (by kernel_rfl) hS 0 rfl rfl rfl) 0 rfl rfl rfl rfl ?_
 intro w31 hS
 refine seq_end ?_
 refine hK30 _ _ ?_
 refine wp_seq_k (fun K32 hK32 => ?_)
 refine wp_region_lit ?_
 refine seq_do (v := .pointer (some ⟨g2, 0, none⟩)) hA rfl rfl rfl (d_field SmF_fld_26_0 rfl rfl) ?_
 intro a hA
 refine seq_do hA rfl rfl rfl (d_loadS hS SmF_isS_24 rfl 4 rfl (cs := [.bool (rb u.num), .slice a1 ((words u.num.natAbs).length) ac1, .slice a2 ((words u.den).length) ac2]) rfl rfl) ?_
 intro a hA
 refine seq_do (v := .pointer (some ⟨g27, 2, none⟩)) hA rfl rfl rfl (d_field SmF_fld_24_2 rfl rfl) ?_
 intro a hA
 refine seq_do hA rfl rfl rfl (d_load1 hS SmF_is1_22 rfl 0 rfl rfl) ?_
 intro a hA
 refine seq_do (v := .pointer (some ⟨g27, 1, none⟩)) hA rfl rfl rfl (d_field SmF_fld_24_1 rfl rfl) ?_
 intro a hA
 refine seq_do hA rfl rfl rfl (d_load1 hS SmF_is1_22 rfl 0 rfl rfl) ?_
 intro a hA
 refine seq_do (v := .agg #[.bool false, .slice u2 ((words x.den).length) uc2, .slice u1 ((words x.num.natAbs).length) uc1]) hA rfl rfl rfl (d_build rfl (fun w => by kernel_rfl)) ?_
 intro a hA
 refine seq_call hA rfl rfl rfl (enters_func  rfl rfl (fun w => by kernel_rfl)) (rprodI_any ⟨(hS.rd 7 rfl), ha.s1.nil, ha.s1.cap⟩ ⟨(hS.rd 6 rfl), ha.s2.nil, ha.s2.cap⟩ ⟨(hS.rd 3 rfl), hb.s1.nil, hb.s1.cap⟩ ⟨(hS.rd 2 rfl), hb.s2.nil, hb.s2.cap⟩ (LR_u.mono (by decide)) (LR_x.mono (by decide)) hx0 hPr) ?_
 rintro _ w37 ⟨f33_1, f33_c1, f33_2, f33_c2, rfl, hs34, hs35, hb36⟩
 replace hS := hS.call hb36
 replace hS := hS.addR hs34.rd
 replace hS := hS.addR hs35.rd
 refine ⟨_, rfl, ?_⟩
 intro a hA
 refine seq_call hA rfl rfl rfl (enters_func  rfl rfl (fun w => by kernel_rfl)) (rdownF_any ⟨(hS.rd 1 rfl), hs34.nil, hs34.cap⟩ ⟨(hS.rd 0 rfl), hs35.nil, hs35.cap⟩ (LR_p1.mono (by decide)) hT) ?_
 rintro _ w42 ⟨f38_1, f38_c1, f38_2, f38_c2, rfl, hs39, hs40, hb41⟩
 replace hS := hS.call hb41
 replace hS := hS.addR hs39.rd
 replace hS := hS.addR hs40.rd
 refine ⟨_, rfl, ?_⟩
 intro a hA
 refine seq_new (vs := [.bool false, .slice none 0 0, .slice none 0 0]) (t := 24) hA hS rfl rfl rfl (fun g => .pointer (some ⟨g, 0, none⟩)) (d_alloc (z := .agg #[.bool false, .slice none 0 0, .slice none 0 0]) (by kernel_rfl) rfl) rfl ?_
 intro g43 w44 hS a hA
 refine seq_store (us := [.bool ((rb T.num)), .slice f38_1 ((words T.num.natAbs).length) f38_c1, .slice f38_2 ((words T.den).length) f38_c2]) hA hS rfl rfl (sets_store rfl rfl rfl (by kernel_rfl) hS 0 rfl rfl rfl) 0 rfl rfl rfl rfl ?_
 intro w45 hS
 refine seq_end ?_
 refine hK32 _ _ ?_
 refine wp_seq_k (fun K46 hK46 => ?_)
 have hJ74 : ∀ a w1, (∃ (J65g : Nat) (J66 : Option Addr) (J67 : Nat) (J68 : Option Addr) (J69 : Nat), Sl a 76 [(0, .agg #[.bool (rb u.num), .slice a1 ((words u.num.natAbs).length) ac1, .slice a2 ((words u.den).length) ac2, .bool (rb v.num), .slice a3 ((words v.num.natAbs).length) ac3, .slice a4 ((words v.den).length) ac4]), (1, .agg #[.bool (rb x.num), .slice u1 ((words x.num.natAbs).length) uc1, .slice u2 ((words x.den).length) uc2, .bool (rb y.num), .slice u3 ((words y.num.natAbs).length) uc3, .slice u4 ((words y.den).length) uc4]), (2, .pointer (some ⟨g2, 0, none⟩)), (3, .pointer (some ⟨g4, 0, none⟩)), (4, .pointer (some ⟨g6, 0, none⟩)), (5, .pointer (some ⟨g8, 0, none⟩)), (6, .int .i64 0), (7, .pointer (some ⟨g27, 0, none⟩)), (8, .pointer (some ⟨g43, 0, none⟩)), (9, .pointer (some ⟨J65g, 0, none⟩)), (12, .agg #[.bool (rb u.num), .slice a1 ((words u.num.natAbs).length) ac1, .slice a2 ((words u.den).length) ac2, .bool (rb v.num), .slice a3 ((words v.num.natAbs).length) ac3, .slice a4 ((words v.den).length) ac4]), (13, .bool true), (14, .bool false), (15, .bool false), (16, .agg #[.bool (rb x.num), .slice u1 ((words x.num.natAbs).length) uc1, .slice u2 ((words x.den).length) uc2, .bool (rb y.num), .slice u3 ((words y.num.natAbs).length) uc3, .slice u4 ((words y.den).length) uc4]), (17, .bool true), (18, .bool false), (19, .bool false), (22, .agg #[.bool (rb u.num), .slice a1 ((words u.num.natAbs).length) ac1, .slice a2 ((words u.den).length) ac2, .bool (rb v.num), .slice a3 ((words v.num.natAbs).length) ac3, .slice a4 ((words v.den).length) ac4]), (23, .bool true), (24, .bool false), (25, .bool false), (26, .agg #[.bool (rb x.num), .slice u1 ((words x.num.natAbs).length) uc1, .slice u2 ((words x.den).length) uc2, .bool (rb y.num), .slice u3 ((words y.num.natAbs).length) uc3, .slice u4 ((words y.den).length) uc4]), (27, .bool true), (28, .bool false), (29, .bool false), (32, .agg #[.bool (rb x.num), .slice u1 ((words x.num.natAbs).length) uc1, .slice u2 ((words x.den).length) uc2, .bool (rb y.num), .slice u3 ((words y.num.natAbs).length) uc3, .slice u4 ((words y.den).length) uc4]), (33, .bool false), (36, .pointer (some ⟨g4, 0, none⟩)), (37, .agg #[.bool (rb x.num), .slice u1 ((words x.num.natAbs).length) uc1, .slice u2 ((words x.den).length) uc2]), (38, .pointer (some ⟨g27, 0, none⟩)), (39, .pointer (some ⟨g2, 0, none⟩)), (40, .agg #[.bool (rb u.num), .slice a1 ((words u.num.natAbs).length) ac1, .slice a2 ((words u.den).length) ac2]), (41, .pointer (some ⟨g27, 2, none⟩)), (42, .slice u2 ((words x.den).length) uc2), (43, .pointer (some ⟨g27, 1, none⟩)), (44, .slice u1 ((words x.num.natAbs).length) uc1), (45, .agg #[.bool false, .slice u2 ((words x.den).length) uc2, .slice u1 ((words x.num.natAbs).length) uc1]), (46, .agg #[.bool ((rb p1.num)), .slice f33_1 ((words p1.num.natAbs).length) f33_c1, .slice f33_2 ((words p1.den).length) f33_c2]), (47, .agg #[.bool ((rb T.num)), .slice f38_1 ((words T.num.natAbs).length) f38_c1, .slice f38_2 ((words T.den).length) f38_c2])] ∧ St w w1 [(J65g, [.bool ((rb R.num)), .slice J66 ((words R.num.natAbs).length) J67, .slice J68 ((words R.den).length) J69]), (g43, [.bool ((rb T.num)), .slice f38_1 ((words T.num.natAbs).length) f38_c1, .slice f38_2 ((words T.den).length) f38_c2]), (g27, [.bool false, .slice u1 ((words x.num.natAbs).length) uc1, .slice u2 ((words x.den).length) uc2]), (g8, [.bool false, .slice none 0 0, .slice none 0 0, .bool false, .slice none 0 0, .slice none 0 0]), (g6, [.bool false, .slice none 0 0, .slice none 0 0, .bool false, .slice none 0 0, .slice none 0 0]), (g4, [.bool (rb x.num), .slice u1 ((words x.num.natAbs).length) uc1, .slice u2 ((words x.den).length) uc2, .bool (rb y.num), .slice u3 ((words y.num.natAbs).length) uc3, .slice u4 ((words y.den).length) uc4]), (g2, [.bool (rb u.num), .slice a1 ((words u.num.natAbs).length) ac1, .slice a2 ((words u.den).length) ac2, .bool (rb v.num), .slice a3 ((words v.num.natAbs).length) ac3, .slice a4 ((words v.den).length) ac4])] [(J68, words R.den), (J66, words R.num.natAbs), (f38_2, words T.den), (f38_1, words T.num.natAbs), (f33_2, words p1.den), (f33_1, words p1.num.natAbs), (u4, words y.den), (u3, words y.num.natAbs), (u2, words x.den), (u1, words x.num.natAbs), (a4, words v.den), (a3, words v.num.natAbs), (a2, words u.den), (a1, words u.num.natAbs)] [] ∧ (J68 = none → J69 = 0) ∧ (words R.den : List Nat).length ≤ J69 ∧ (J66 = none → J67 = 0) ∧ (words R.num.natAbs : List Nat).length ≤ J67) → K46 a w1 := by
   clear hA hS
   rintro a w75 ⟨J65g, J66, J67, J68, J69, hA, hS, hn70, hc71, hn72, hc73⟩
   refine hK46 _ _ ?_
   refine wp_seq_k (fun K76 hK76 => ?_)
   refine wp_seq_k (fun K77 hK77 => ?_)
   refine wp_region_lit ?_
   refine seq_do (v := .pointer (some ⟨g4, 0, none⟩)) hA rfl rfl rfl (d_field SmF_fld_26_0 rfl rfl) ?_
   intro a hA
   refine seq_do (v := .pointer (some ⟨g4, 0, none⟩)) hA rfl rfl rfl (d_field SmF_fld_24_0 rfl rfl) ?_
   intro a hA
   refine seq_do hA rfl rfl rfl (d_load1 hS SmF_is1_4 rfl 5 rfl rfl) ?_
   intro a hA
   refine seq_end ?_
   refine hK77 _ _ ?_
   refine wp_cond_split (t := rb x.num) (hA.ev rfl) (fun hc78 => ?_) (fun hc78 => ?_)
   · refine wp_region_lit ?_
     refine seq_do hA rfl rfl rfl (d_loadS hS SmF_isS_24 rfl 1 rfl (cs := [.bool ((rb T.num)), .slice f38_1 ((words T.num.natAbs).length) f38_c1, .slice f38_2 ((words T.den).length) f38_c2]) rfl rfl) ?_
     intro a hA
     refine seq_call hA rfl rfl rfl (enters_func  rfl rfl (fun w => by kernel_rfl)) (rminusR_any ⟨(hS.rd 3 rfl), hs39.nil, hs39.cap⟩ ⟨(hS.rd 2 rfl), hs40.nil, hs40.cap⟩ hM1) ?_
     rintro _ w83 ⟨f79_1, f79_c1, f79_2, f79_c2, rfl, hs80, hs81, hb82⟩
     replace hS := hS.call hb82
     replace hS := hS.addR hs80.rd
     replace hS := hS.addR hs81.rd
     refine ⟨_, rfl, ?_⟩
     intro a hA
     refine seq_store (us := [.bool ((rb m1.num)), .slice f79_1 ((words m1.num.natAbs).length) f79_c1, .slice f79_2 ((words m1.den).length) f79_c2]) hA hS rfl rfl (sets_store rfl rfl rfl (by kernel_rfl) hS 1 rfl rfl rfl) 1 rfl rfl rfl rfl ?_
     intro w84 hS
     refine seq_end ?_
     refine hK76 _ _ ?_
     refine wp_seq_k (fun K85 hK85 => ?_)
     have hJ120 : ∀ a w1, (∃ (J102g : Nat) (J103g : Nat) (J104 : Option Addr) (J105 : Nat) (J106 : Option Addr) (J107 : Nat) (J108 : Option Addr) (J109 : Nat) (J110 : Option Addr) (J111 : Nat), Sl a 76 [(0, .agg #[.bool (rb u.num), .slice a1 ((words u.num.natAbs).length) ac1, .slice a2 ((words u.den).length) ac2, .bool (rb v.num), .slice a3 ((words v.num.natAbs).length) ac3, .slice a4 ((words v.den).length) ac4]), (1, .agg #[.bool (rb x.num), .slice u1 ((words x.num.natAbs).length) uc1, .slice u2 ((words x.den).length) uc2, .bool (rb y.num), .slice u3 ((words y.num.natAbs).length) uc3, .slice u4 ((words y.den).length) uc4]), (2, .pointer (some ⟨g2, 0, none⟩)), (3, .pointer (some ⟨g4, 0, none⟩)), (4, .pointer (some ⟨g6, 0, none⟩)), (5, .pointer (some ⟨g8, 0, none⟩)), (6, .int .i64 0), (7, .pointer (some ⟨g27, 0, none⟩)), (8, .pointer (some ⟨g43, 0, none⟩)), (9, .pointer (some ⟨J65g, 0, none⟩)), (10, .pointer (some ⟨J102g, 0, none⟩)), (11, .pointer (some ⟨J103g, 0, none⟩)), (12, .agg #[.bool (rb u.num), .slice a1 ((words u.num.natAbs).length) ac1, .slice a2 ((words u.den).length) ac2, .bool (rb v.num), .slice a3 ((words v.num.natAbs).length) ac3, .slice a4 ((words v.den).length) ac4]), (13, .bool true), (14, .bool false), (15, .bool false), (16, .agg #[.bool (rb x.num), .slice u1 ((words x.num.natAbs).length) uc1, .slice u2 ((words x.den).length) uc2, .bool (rb y.num), .slice u3 ((words y.num.natAbs).length) uc3, .slice u4 ((words y.den).length) uc4]), (17, .bool true), (18, .bool false), (19, .bool false), (22, .agg #[.bool (rb u.num), .slice a1 ((words u.num.natAbs).length) ac1, .slice a2 ((words u.den).length) ac2, .bool (rb v.num), .slice a3 ((words v.num.natAbs).length) ac3, .slice a4 ((words v.den).length) ac4]), (23, .bool true), (24, .bool false), (25, .bool false), (26, .agg #[.bool (rb x.num), .slice u1 ((words x.num.natAbs).length) uc1, .slice u2 ((words x.den).length) uc2, .bool (rb y.num), .slice u3 ((words y.num.natAbs).length) uc3, .slice u4 ((words y.den).length) uc4]), (27, .bool true), (28, .bool false), (29, .bool false), (32, .agg #[.bool (rb x.num), .slice u1 ((words x.num.natAbs).length) uc1, .slice u2 ((words x.den).length) uc2, .bool (rb y.num), .slice u3 ((words y.num.natAbs).length) uc3, .slice u4 ((words y.den).length) uc4]), (33, .bool false), (36, .pointer (some ⟨g4, 0, none⟩)), (37, .agg #[.bool (rb x.num), .slice u1 ((words x.num.natAbs).length) uc1, .slice u2 ((words x.den).length) uc2]), (38, .pointer (some ⟨g27, 0, none⟩)), (39, .pointer (some ⟨g2, 0, none⟩)), (40, .agg #[.bool (rb u.num), .slice a1 ((words u.num.natAbs).length) ac1, .slice a2 ((words u.den).length) ac2]), (41, .pointer (some ⟨g27, 2, none⟩)), (42, .slice u2 ((words x.den).length) uc2), (43, .pointer (some ⟨g27, 1, none⟩)), (44, .slice u1 ((words x.num.natAbs).length) uc1), (45, .agg #[.bool false, .slice u2 ((words x.den).length) uc2, .slice u1 ((words x.num.natAbs).length) uc1]), (46, .agg #[.bool ((rb p1.num)), .slice f33_1 ((words p1.num.natAbs).length) f33_c1, .slice f33_2 ((words p1.den).length) f33_c2]), (47, .agg #[.bool ((rb T.num)), .slice f38_1 ((words T.num.natAbs).length) f38_c1, .slice f38_2 ((words T.den).length) f38_c2]), (55, .pointer (some ⟨g4, 0, none⟩)), (56, .pointer (some ⟨g4, 0, none⟩)), (57, .bool (rb x.num)), (58, .agg #[.bool ((rb T.num)), .slice f38_1 ((words T.num.natAbs).length) f38_c1, .slice f38_2 ((words T.den).length) f38_c2]), (59, .agg #[.bool ((rb m1.num)), .slice f79_1 ((words m1.num.natAbs).length) f79_c1, .slice f79_2 ((words m1.den).length) f79_c2])] ∧ St w w1 [(J103g, [.bool ((rb R.num)), .slice J66 ((words R.num.natAbs).length) J67, .slice J68 ((words R.den).length) J69, .bool false, .slice J108 0 J109, .slice J110 1 J111]), (J102g, [.bool ((rb m1.num)), .slice f79_1 ((words m1.num.natAbs).length) f79_c1, .slice f79_2 ((words m1.den).length) f79_c2, .bool false, .slice J104 0 J105, .slice J106 1 J107]), (J65g, [.bool ((rb R.num)), .slice J66 ((words R.num.natAbs).length) J67, .slice J68 ((words R.den).length) J69]), (g43, [.bool ((rb m1.num)), .slice f79_1 ((words m1.num.natAbs).length) f79_c1, .slice f79_2 ((words m1.den).length) f79_c2]), (g27, [.bool false, .slice u1 ((words x.num.natAbs).length) uc1, .slice u2 ((words x.den).length) uc2]), (g8, [.bool false, .slice none 0 0, .slice none 0 0, .bool false, .slice none 0 0, .slice none 0 0]), (g6, [.bool false, .slice none 0 0, .slice none 0 0, .bool false, .slice none 0 0, .slice none 0 0]), (g4, [.bool (rb x.num), .slice u1 ((words x.num.natAbs).length) uc1, .slice u2 ((words x.den).length) uc2, .bool (rb y.num), .slice u3 ((words y.num.natAbs).length) uc3, .slice u4 ((words y.den).length) uc4]), (g2, [.bool (rb u.num), .slice a1 ((words u.num.natAbs).length) ac1, .slice a2 ((words u.den).length) ac2, .bool (rb v.num), .slice a3 ((words v.num.natAbs).length) ac3, .slice a4 ((words v.den).length) ac4])] [(J110, [1]), (J108, []), (J106, [1]), (J104, []), (f79_2, words m1.den), (f79_1, words m1.num.natAbs), (J68, words R.den), (J66, words R.num.natAbs), (f38_2, words T.den), (f38_1, words T.num.natAbs), (f33_2, words p1.den), (f33_1, words p1.num.natAbs), (u4, words y.den), (u3, words y.num.natAbs), (u2, words x.den), (u1, words x.num.natAbs), (a4, words v.den), (a3, words v.num.natAbs), (a2, words u.den), (a1, words u.num.natAbs)] [] ∧ (J110 = none → J111 = 0) ∧ ([1] : List Nat).length ≤ J111 ∧ (J108 = none → J109 = 0) ∧ ([] : List Nat).length ≤ J109 ∧ (J106 = none → J107 = 0) ∧ ([1] : List Nat).length ≤ J107 ∧ (J104 = none → J105 = 0) ∧ ([] : List Nat).length ≤ J105) → K85 a w1 := by
       clear hA hS
       rintro a w121 ⟨J102g, J103g, J104, J105, J106, J107, J108, J109, J110, J111, hA, hS, hn112, hc113, hn114, hc115, hn116, hc117, hn118, hc119⟩
       refine hK85 _ _ ?_
       refine wp_seq_k (fun K122 hK122 => ?_)
       refine wp_seq_k (fun K123 hK123 => ?_)
       refine wp_region_lit ?_
       refine seq_do hA rfl rfl rfl (d_loadS hS SmF_isS_26 rfl 1 rfl (cs := [.bool ((rb m1.num)), .slice f79_1 ((words m1.num.natAbs).length) f79_c1, .slice f79_2 ((words m1.den).length) f79_c2, .bool false, .slice J104 0 J105, .slice J106 1 J107]) rfl rfl) ?_
       intro a hA
       rcases Bool.eq_false_or_eq_true (decide (¬ (fitR m1 ∧ fitR 0))) with hb124 | hb124
       · have hb124' := of_decide_eq_true hb124
         refine seq_call hA rfl rfl rfl (enters_func  rfl rfl (fun w => by kernel_rfl)) (rlarge0_any (show Nm _ (Q6.real m1) f79_1 f79_c1 f79_2 f79_c2 J104 J105 J106 J107 from ⟨⟨(hS.rd 5 rfl), hs80.nil, hs80.cap⟩, ⟨(hS.rd 4 rfl), hs81.nil, hs81.cap⟩, ⟨(hS.rd 3 rfl), hn118, hc119⟩, ⟨(hS.rd 2 rfl), hn116, hc117⟩⟩) (LR_m1.mono (by decide)) hb124) ?_
         rintro _ w126 ⟨rfl, hb125⟩
         replace hS := hS.call hb125
         refine ⟨_, rfl, ?_⟩
         intro a hA
         refine seq_do hA rfl rfl rfl (d_move rfl) ?_
         intro a hA
         refine seq_skip hA rfl rfl rfl ?_
         intro a hA
         refine seq_skip hA rfl rfl rfl ?_
         intro a hA
         refine seq_do (v := .bool true) hA rfl rfl rfl (d_pick rfl rfl rfl rfl) ?_
         intro a hA
         refine seq_end ?_
         refine hK123 _ _ ?_
         refine wp_cond_true (hA.ev rfl) ?_
         refine wp_seq_k (fun K127 hK127 => ?_)
         refine wp_region_lit ?_
         refine seq_do (v := .agg #[.bool false, .slice none 0 0, .slice none 0 0, .bool false, .slice none 0 0, .slice none 0 0]) hA rfl rfl rfl (d_build rfl (fun w => by kernel_rfl)) ?_
         intro a hA
         refine seq_do (v := .agg #[.bool false, .slice none 0 0, .slice none 0 0, .bool false, .slice none 0 0, .slice none 0 0]) hA rfl rfl rfl (d_build rfl (fun w => by kernel_rfl)) ?_
         intro a hA
         refine seq_store (us := [.bool false, .slice none 0 0, .slice none 0 0, .bool false, .slice none 0 0, .slice none 0 0]) hA hS rfl rfl (sets_store rfl rfl rfl (by kernel_rfl) hS 6 rfl rfl rfl) 6 rfl rfl rfl rfl ?_
         intro w128 hS
         refine seq_store (us := [.bool false, .slice none 0 0, .slice none 0 0, .bool false, .slice none 0 0, .slice none 0 0]) hA hS rfl rfl (sets_store rfl rfl rfl (by kernel_rfl) hS 5 rfl rfl rfl) 5 rfl rfl rfl rfl ?_
         intro w129 hS
         refine seq_do hA rfl rfl rfl (d_assign rfl) ?_
         intro a hA
         refine seq_end ?_
         refine hK127 _ _ ?_
         refine wp_ret ?_
         refine hret _ _ ?_
         refine ends (v := .tuple #[.agg #[.bool false, .slice none 0 0, .slice none 0 0, .bool false, .slice none 0 0, .slice none 0 0], .agg #[.bool false, .slice none 0 0, .slice none 0 0, .bool false, .slice none 0 0, .slice none 0 0], .int .i64 4]) hA rfl (.cons (res_cell hS SmF_isS_26 rfl 6 rfl (cs := [.bool false, .slice none 0 0, .slice none 0 0, .bool false, .slice none 0 0, .slice none 0 0]) rfl rfl) (.cons (res_cell hS SmF_isS_26 rfl 5 rfl (cs := [.bool false, .slice none 0 0, .slice none 0 0, .bool false, .slice none 0 0, .slice none 0 0]) rfl rfl) (.cons (res_tmp rfl) .nil))) rfl ?_
         rw [show qz = m1 from by rw [← hq, hc78]; rfl]
         rw [dm_big1 hb124]
         exact ⟨none, 0, none, 0, none, 0, none, 0, none, 0, none, 0, none, 0, none, 0, rfl, ⟨(Sc.none _), (Sc.none _), (Sc.none _), (Sc.none _)⟩, ⟨(Sc.none _), (Sc.none _), (Sc.none _), (Sc.none _)⟩, hS.bel⟩
       · have hb124' := of_decide_eq_false hb124
         refine seq_call hA rfl rfl rfl (enters_func  rfl rfl (fun w => by kernel_rfl)) (rlarge0_any (show Nm _ (Q6.real m1) f79_1 f79_c1 f79_2 f79_c2 J104 J105 J106 J107 from ⟨⟨(hS.rd 5 rfl), hs80.nil, hs80.cap⟩, ⟨(hS.rd 4 rfl), hs81.nil, hs81.cap⟩, ⟨(hS.rd 3 rfl), hn118, hc119⟩, ⟨(hS.rd 2 rfl), hn116, hc117⟩⟩) (LR_m1.mono (by decide)) hb124) ?_
         rintro _ w131 ⟨rfl, hb130⟩
         replace hS := hS.call hb130
         refine ⟨_, rfl, ?_⟩
         intro a hA
         refine seq_do hA rfl rfl rfl (d_move rfl) ?_
         intro a hA
         refine seq_do hA rfl rfl rfl (d_loadS hS SmF_isS_26 rfl 0 rfl (cs := [.bool ((rb R.num)), .slice J66 ((words R.num.natAbs).length) J67, .slice J68 ((words R.den).length) J69, .bool false, .slice J108 0 J109, .slice J110 1 J111]) rfl rfl) ?_
         intro a hA
         rcases Bool.eq_false_or_eq_true (decide (¬ (fitR R ∧ fitR 0))) with hb132 | hb132
         · have hb132' := of_decide_eq_true hb132
           refine seq_call hA rfl rfl rfl (enters_func  rfl rfl (fun w => by kernel_rfl)) (rlarge0_any (show Nm _ (Q6.real R) J66 J67 J68 J69 J108 J109 J110 J111 from ⟨⟨(hS.rd 7 rfl), hn72, hc73⟩, ⟨(hS.rd 6 rfl), hn70, hc71⟩, ⟨(hS.rd 1 rfl), hn114, hc115⟩, ⟨(hS.rd 0 rfl), hn112, hc113⟩⟩) (LR_R.mono (by decide)) hb132) ?_
           rintro _ w134 ⟨rfl, hb133⟩
           replace hS := hS.call hb133
           refine ⟨_, rfl, ?_⟩
           intro a hA
           refine seq_do (v := .bool true) hA rfl rfl rfl (d_pick rfl rfl rfl rfl) ?_
           intro a hA
           refine seq_end ?_
           refine hK123 _ _ ?_
           refine wp_cond_true (hA.ev rfl) ?_
           refine wp_seq_k (fun K135 hK135 => ?_)
           refine wp_region_lit ?_
           refine seq_do (v := .agg #[.bool false, .slice none 0 0, .slice none 0 0, .bool false, .slice none 0 0, .slice none 0 0]) hA rfl rfl rfl (d_build rfl (fun w => by kernel_rfl)) ?_
           intro a hA
           refine seq_do (v := .agg #[.bool false, .slice none 0 0, .slice none 0 0, .bool false, .slice none 0 0, .slice none 0 0]) hA rfl rfl rfl (d_build rfl (fun w => by kernel_rfl)) ?_
           intro a hA
           refine seq_store (us := [.bool false, .slice none 0 0, .slice none 0 0, .bool false, .slice none 0 0, .slice none 0 0]) hA hS rfl rfl (sets_store rfl rfl rfl (by kernel_rfl) hS 6 rfl rfl rfl) 6 rfl rfl rfl rfl ?_
           intro w136 hS
           refine seq_store (us := [.bool false, .slice none 0 0, .slice none 0 0, .bool false, .slice none 0 0, .slice none 0 0]) hA hS rfl rfl (sets_store rfl rfl rfl (by kernel_rfl) hS 5 rfl rfl rfl) 5 rfl rfl rfl rfl ?_
           intro w137 hS
           refine seq_do hA rfl rfl rfl (d_assign rfl) ?_
           intro a hA
           refine seq_end ?_
           refine hK135 _ _ ?_
           refine wp_ret ?_
           refine hret _ _ ?_
           refine ends (v := .tuple #[.agg #[.bool false, .slice none 0 0, .slice none 0 0, .bool false, .slice none 0 0, .slice none 0 0], .agg #[.bool false, .slice none 0 0, .slice none 0 0, .bool false, .slice none 0 0, .slice none 0 0], .int .i64 4]) hA rfl (.cons (res_cell hS SmF_isS_26 rfl 6 rfl (cs := [.bool false, .slice none 0 0, .slice none 0 0, .bool false, .slice none 0 0, .slice none 0 0]) rfl rfl) (.cons (res_cell hS SmF_isS_26 rfl 5 rfl (cs := [.bool false, .slice none 0 0, .slice none 0 0, .bool false, .slice none 0 0, .slice none 0 0]) rfl rfl) (.cons (res_tmp rfl) .nil))) rfl ?_
           rw [show qz = m1 from by rw [← hq, hc78]; rfl]
           rw [dm_big2 hb124 hb132]
           exact ⟨none, 0, none, 0, none, 0, none, 0, none, 0, none, 0, none, 0, none, 0, rfl, ⟨(Sc.none _), (Sc.none _), (Sc.none _), (Sc.none _)⟩, ⟨(Sc.none _), (Sc.none _), (Sc.none _), (Sc.none _)⟩, hS.bel⟩
         · have hb132' := of_decide_eq_false hb132
           refine seq_call hA rfl rfl rfl (enters_func  rfl rfl (fun w => by kernel_rfl)) (rlarge0_any (show Nm _ (Q6.real R) J66 J67 J68 J69 J108 J109 J110 J111 from ⟨⟨(hS.rd 7 rfl), hn72, hc73⟩, ⟨(hS.rd 6 rfl), hn70, hc71⟩, ⟨(hS.rd 1 rfl), hn114, hc115⟩, ⟨(hS.rd 0 rfl), hn112, hc113⟩⟩) (LR_R.mono (by decide)) hb132) ?_
           rintro _ w139 ⟨rfl, hb138⟩
           replace hS := hS.call hb138
           refine ⟨_, rfl, ?_⟩
           intro a hA
           refine seq_do (v := .bool false) hA rfl rfl rfl (d_pick rfl rfl rfl rfl) ?_
           intro a hA
           refine seq_end ?_
           refine hK123 _ _ ?_
           refine wp_cond_false (hA.ev rfl) ?_
           refine wp_skip ?_
           refine hK122 _ _ ?_
           refine wp_seq_k (fun K140 hK140 => ?_)
           refine wp_draw (S := fun w1 => St w w1 [(J103g, [.bool ((rb R.num)), .slice J66 ((words R.num.natAbs).length) J67, .slice J68 ((words R.den).length) J69, .bool false, .slice J108 0 J109, .slice J110 1 J111]), (J102g, [.bool ((rb m1.num)), .slice f79_1 ((words m1.num.natAbs).length) f79_c1, .slice f79_2 ((words m1.den).length) f79_c2, .bool false, .slice J104 0 J105, .slice J106 1 J107]), (J65g, [.bool ((rb R.num)), .slice J66 ((words R.num.natAbs).length) J67, .slice J68 ((words R.den).length) J69]), (g43, [.bool ((rb m1.num)), .slice f79_1 ((words m1.num.natAbs).length) f79_c1, .slice f79_2 ((words m1.den).length) f79_c2]), (g27, [.bool false, .slice u1 ((words x.num.natAbs).length) uc1, .slice u2 ((words x.den).length) uc2]), (g4, [.bool (rb x.num), .slice u1 ((words x.num.natAbs).length) uc1, .slice u2 ((words x.den).length) uc2, .bool (rb y.num), .slice u3 ((words y.num.natAbs).length) uc3, .slice u4 ((words y.den).length) uc4]), (g2, [.bool (rb u.num), .slice a1 ((words u.num.natAbs).length) ac1, .slice a2 ((words u.den).length) ac2, .bool (rb v.num), .slice a3 ((words v.num.natAbs).length) ac3, .slice a4 ((words v.den).length) ac4])] [(J110, [1]), (J108, []), (J106, [1]), (J104, []), (f79_2, words m1.den), (f79_1, words m1.num.natAbs), (J68, words R.den), (J66, words R.num.natAbs), (f38_2, words T.den), (f38_1, words T.num.natAbs), (f33_2, words p1.den), (f33_1, words p1.num.natAbs), (u4, words y.den), (u3, words y.num.natAbs), (u2, words x.den), (u1, words x.num.natAbs), (a4, words v.den), (a3, words v.num.natAbs), (a2, words u.den), (a1, words u.num.natAbs)] []) (by kernel_rfl) ?_
           replace hS := hS.drew
           refine any_tk hA 0 rfl rfl rfl rfl hP (hS.partD (.cons_cons _ (.cons_cons _ (.cons_cons _ (.cons_cons _ (.cons_cons _ (.cons _ (.cons _ (.cons_cons _ (.cons_cons _ .slnil))))))))) 0 rfl (.refl _)) (fun w1 hS => d_loadS hS SmF_isS_26 rfl 1 rfl (cs := [.bool ((rb m1.num)), .slice f79_1 ((words m1.num.natAbs).length) f79_c1, .slice f79_2 ((words m1.den).length) f79_c2, .bool false, .slice J104 0 J105, .slice J106 1 J107]) rfl rfl) ?_
           intro a hA
           refine any_tk hA 1 rfl rfl rfl rfl hP (hS.partD (.cons_cons _ (.cons_cons _ (.cons_cons _ (.cons_cons _ (.cons_cons _ (.cons _ (.cons _ (.cons_cons _ (.cons_cons _ .slnil))))))))) 0 rfl (.refl _)) (fun w1 hS => d_loadS hS SmF_isS_26 rfl 0 rfl (cs := [.bool ((rb R.num)), .slice J66 ((words R.num.natAbs).length) J67, .slice J68 ((words R.den).length) J69, .bool false, .slice J108 0 J109, .slice J110 1 J111]) rfl rfl) ?_
           intro a hA
           refine any_one (by kernel_rfl) (op_store (us := [.bool ((rb m1.num)), .slice f79_1 ((words m1.num.natAbs).length) f79_c1, .slice f79_2 ((words m1.den).length) f79_c2, .bool false, .slice J104 0 J105, .slice J106 1 J107]) hA hS 2 rfl rfl rfl (sets_store rfl rfl rfl (by kernel_rfl) hS 6 rfl rfl rfl) 6 rfl rfl rfl rfl ?_)
           intro w141 hS
           refine ⟨(hS.partD (.cons_cons _ (.cons_cons _ (.cons_cons _ (.cons_cons _ (.cons_cons _ (.cons _ (.cons _ (.cons_cons _ (.cons_cons _ .slnil))))))))) 0 rfl (.refl _)), ?_⟩
           refine any_one (by kernel_rfl) (op_store (us := [.bool ((rb R.num)), .slice J66 ((words R.num.natAbs).length) J67, .slice J68 ((words R.den).length) J69, .bool false, .slice J108 0 J109, .slice J110 1 J111]) hA hS 3 rfl rfl rfl (sets_store rfl rfl rfl (by kernel_rfl) hS 5 rfl rfl rfl) 5 rfl rfl rfl rfl ?_)
           intro w142 hS
           refine ⟨(hS.partD (.cons_cons _ (.cons_cons _ (.cons_cons _ (.cons_cons _ (.cons_cons _ (.cons _ (.cons _ (.cons_cons _ (.cons_cons _ .slnil))))))))) 0 rfl (.refl _)), ?_⟩
           refine any_tk hA 4 rfl rfl rfl rfl hP (hS.partD (.cons_cons _ (.cons_cons _ (.cons_cons _ (.cons_cons _ (.cons_cons _ (.cons _ (.cons _ (.cons_cons _ (.cons_cons _ .slnil))))))))) 0 rfl (.refl _)) (fun w1 hS => d_assign rfl) ?_
           intro a hA
           refine any_end (by kernel_rfl) ?_
           refine hK140 _ _ ?_
           refine wp_ret ?_
           refine hret _ _ ?_
           refine ends (v := .tuple #[.agg #[.bool ((rb m1.num)), .slice f79_1 ((words m1.num.natAbs).length) f79_c1, .slice f79_2 ((words m1.den).length) f79_c2, .bool false, .slice J104 0 J105, .slice J106 1 J107], .agg #[.bool ((rb R.num)), .slice J66 ((words R.num.natAbs).length) J67, .slice J68 ((words R.den).length) J69, .bool false, .slice J108 0 J109, .slice J110 1 J111], .int .i64 0]) hA rfl (.cons (res_cell hS SmF_isS_26 rfl 6 rfl (cs := [.bool ((rb m1.num)), .slice f79_1 ((words m1.num.natAbs).length) f79_c1, .slice f79_2 ((words m1.den).length) f79_c2, .bool false, .slice J104 0 J105, .slice J106 1 J107]) rfl rfl) (.cons (res_cell hS SmF_isS_26 rfl 5 rfl (cs := [.bool ((rb R.num)), .slice J66 ((words R.num.natAbs).length) J67, .slice J68 ((words R.den).length) J69, .bool false, .slice J108 0 J109, .slice J110 1 J111]) rfl rfl) (.cons (res_tmp rfl) .nil))) rfl ?_
           rw [show qz = m1 from by rw [← hq, hc78]; rfl]
           rw [dm_fit hb124 hb132]
           exact ⟨f79_1, f79_c1, f79_2, f79_c2, J104, J105, J106, J107, J66, J67, J68, J69, J108, J109, J110, J111, rfl, ⟨⟨(hS.rd 5 rfl), hs80.nil, hs80.cap⟩, ⟨(hS.rd 4 rfl), hs81.nil, hs81.cap⟩, ⟨(hS.rd 3 rfl), hn118, hc119⟩, ⟨(hS.rd 2 rfl), hn116, hc117⟩⟩, ⟨⟨(hS.rd 7 rfl), hn72, hc73⟩, ⟨(hS.rd 6 rfl), hn70, hc71⟩, ⟨(hS.rd 1 rfl), hn114, hc115⟩, ⟨(hS.rd 0 rfl), hn112, hc113⟩⟩, hS.bel⟩
     refine wp_draw (S := fun w1 => St w w1 [(J65g, [.bool ((rb R.num)), .slice J66 ((words R.num.natAbs).length) J67, .slice J68 ((words R.den).length) J69]), (g43, [.bool ((rb m1.num)), .slice f79_1 ((words m1.num.natAbs).length) f79_c1, .slice f79_2 ((words m1.den).length) f79_c2]), (g27, [.bool false, .slice u1 ((words x.num.natAbs).length) uc1, .slice u2 ((words x.den).length) uc2]), (g8, [.bool false, .slice none 0 0, .slice none 0 0, .bool false, .slice none 0 0, .slice none 0 0]), (g6, [.bool false, .slice none 0 0, .slice none 0 0, .bool false, .slice none 0 0, .slice none 0 0]), (g4, [.bool (rb x.num), .slice u1 ((words x.num.natAbs).length) uc1, .slice u2 ((words x.den).length) uc2, .bool (rb y.num), .slice u3 ((words y.num.natAbs).length) uc3, .slice u4 ((words y.den).length) uc4]), (g2, [.bool (rb u.num), .slice a1 ((words u.num.natAbs).length) ac1, .slice a2 ((words u.den).length) ac2, .bool (rb v.num), .slice a3 ((words v.num.natAbs).length) ac3, .slice a4 ((words v.den).length) ac4])] [(f79_2, words m1.den), (f79_1, words m1.num.natAbs), (J68, words R.den), (J66, words R.num.natAbs), (f38_2, words T.den), (f38_1, words T.num.natAbs), (f33_2, words p1.den), (f33_1, words p1.num.natAbs), (u4, words y.den), (u3, words y.num.natAbs), (u2, words x.den), (u1, words x.num.natAbs), (a4, words v.den), (a3, words v.num.natAbs), (a2, words u.den), (a1, words u.num.natAbs)] []) (by kernel_rfl) ?_
     replace hS := hS.drew
     refine any_tk hA 0 rfl rfl rfl rfl hP hS (fun w1 hS => d_loadS hS SmF_isS_24 rfl 1 rfl (cs := [.bool ((rb m1.num)), .slice f79_1 ((words m1.num.natAbs).length) f79_c1, .slice f79_2 ((words m1.den).length) f79_c2]) rfl rfl) ?_
     intro a hA
     refine any_tk hA 3 rfl rfl rfl rfl hP hS (fun w1 hS => d_loadS hS SmF_isS_24 rfl 0 rfl (cs := [.bool ((rb R.num)), .slice J66 ((words R.num.natAbs).length) J67, .slice J68 ((words R.den).length) J69]) rfl rfl) ?_
     intro a hA
     refine any_many (rs := [1, 6, 7]) (by kernel_rfl) (by simp) ⟨?_, ?_, ?_, trivial⟩
     · refine op_call hA 1 rfl rfl rfl rfl (enters_func  rfl rfl (fun w => by kernel_rfl)) (rzero_any _) ?_
       rintro _ w147 ⟨f143_1, f143_c1, f143_2, f143_c2, rfl, hs144, hs145, hb146⟩
       replace hS := hS.call hb146
       replace hS := hS.addR hs144.rd
       replace hS := hS.addR hs145.rd
       refine ⟨_, rfl, (hS.partD (.refl _) 2 rfl (.refl _)), ?_⟩
       intro a hA
       refine any_tk (v := .agg #[.bool ((rb m1.num)), .slice f79_1 ((words m1.num.natAbs).length) f79_c1, .slice f79_2 ((words m1.den).length) f79_c2, .bool false, .slice f143_1 0 f143_c1, .slice f143_2 1 f143_c2]) hA 2 rfl rfl rfl rfl hP (hS.partD (.refl _) 2 rfl (.refl _)) (fun w1 hS => d_build rfl (fun w => by kernel_rfl)) ?_
       intro a hA
       refine any_many (rs := [4, 6, 7]) (by kernel_rfl) (by simp) ⟨?_, ?_, ?_, trivial⟩
       · refine op_call hA 4 rfl rfl rfl rfl (enters_func  rfl rfl (fun w => by kernel_rfl)) (rzero_any _) ?_
         rintro _ w152 ⟨f148_1, f148_c1, f148_2, f148_c2, rfl, hs149, hs150, hb151⟩
         replace hS := hS.call hb151
         replace hS := hS.addR hs149.rd
         replace hS := hS.addR hs150.rd
         refine ⟨_, rfl, (hS.partD (.refl _) 4 rfl (.refl _)), ?_⟩
         intro a hA
         refine any_tk (v := .agg #[.bool ((rb R.num)), .slice J66 ((words R.num.natAbs).length) J67, .slice J68 ((words R.den).length) J69, .bool false, .slice f148_1 0 f148_c1, .slice f148_2 1 f148_c2]) hA 5 rfl rfl rfl rfl hP (hS.partD (.refl _) 4 rfl (.refl _)) (fun w1 hS => d_build rfl (fun w => by kernel_rfl)) ?_
         intro a hA
         refine any_many (rs := [6, 7]) (by kernel_rfl) (by simp) ⟨?_, ?_, trivial⟩
         · refine op_new (vs := [.bool false, .slice none 0 0, .slice none 0 0, .bool false, .slice none 0 0, .slice none 0 0]) (t := 26) hA hS 6 rfl rfl rfl rfl (fun g => .pointer (some ⟨g, 0, none⟩)) (d_alloc (z := .agg #[.bool false, .slice none 0 0, .slice none 0 0, .bool false, .slice none 0 0, .slice none 0 0]) (by kernel_rfl) rfl) rfl ?_
           intro g153 w154 hS
           refine ⟨(hS.partD (.cons _ (.cons_cons _ (.cons_cons _ (.cons_cons _ (.cons_cons _ (.cons_cons _ (.cons_cons _ (.cons_cons _ .slnil)))))))) 4 rfl (.refl _)), ?_⟩
           intro a hA
           refine any_one (by kernel_rfl) (op_new (vs := [.bool false, .slice none 0 0, .slice none 0 0, .bool false, .slice none 0 0, .slice none 0 0]) (t := 26) hA hS 7 rfl rfl rfl rfl (fun g => .pointer (some ⟨g, 0, none⟩)) (d_alloc (z := .agg #[.bool false, .slice none 0 0, .slice none 0 0, .bool false, .slice none 0 0, .slice none 0 0]) (by kernel_rfl) rfl) rfl ?_)
           intro g155 w156 hS
           refine ⟨(hS.partD (.cons _ (.cons _ (.cons_cons _ (.cons_cons _ (.cons_cons _ (.cons_cons _ (.cons_cons _ (.cons_cons _ (.cons_cons _ .slnil))))))))) 4 rfl (.refl _)), ?_⟩
           intro a hA
           refine any_one (by kernel_rfl) (op_store (us := [.bool ((rb m1.num)), .slice f79_1 ((words m1.num.natAbs).length) f79_c1, .slice f79_2 ((words m1.den).length) f79_c2, .bool false, .slice f143_1 0 f143_c1, .slice f143_2 1 f143_c2]) hA hS 8 rfl rfl rfl (sets_store rfl rfl rfl (by kernel_rfl) hS 1 rfl rfl rfl) 1 rfl rfl rfl rfl ?_)
           intro w157 hS
           refine ⟨(hS.partD (.cons _ (.cons _ (.cons_cons _ (.cons_cons _ (.cons_cons _ (.cons_cons _ (.cons_cons _ (.cons_cons _ (.cons_cons _ .slnil))))))))) 4 rfl (.refl _)), ?_⟩
           refine any_one (by kernel_rfl) (op_store (us := [.bool ((rb R.num)), .slice J66 ((words R.num.natAbs).length) J67, .slice J68 ((words R.den).length) J69, .bool false, .slice f148_1 0 f148_c1, .slice f148_2 1 f148_c2]) hA hS 9 rfl rfl rfl (sets_store rfl rfl rfl (by kernel_rfl) hS 0 rfl rfl rfl) 0 rfl rfl rfl rfl ?_)
           intro w158 hS
           refine ⟨(hS.partD (.cons _ (.cons _ (.cons_cons _ (.cons_cons _ (.cons_cons _ (.cons_cons _ (.cons_cons _ (.cons_cons _ (.cons_cons _ .slnil))))))))) 4 rfl (.refl _)), ?_⟩
           refine any_end (by kernel_rfl) ?_
           refine hJ120 _ _ ⟨g153, g155, f143_1, f143_c1, f143_2, f143_c2, f148_1, f148_c1, f148_2, f148_c2, hA.keep _ ⟨rfl, rfl, rfl, rfl, rfl, rfl, rfl, rfl, rfl, rfl, rfl, rfl, rfl, rfl, rfl, rfl, rfl, rfl, rfl, rfl, rfl, rfl, rfl, rfl, rfl, rfl, rfl, rfl, rfl, rfl, rfl, rfl, rfl, rfl, rfl, rfl, rfl, rfl, rfl, rfl, rfl, rfl, rfl, rfl, rfl, rfl, rfl, trivial⟩, (St.pickRL hS ⟨⟨0, rfl⟩, ⟨⟨1, rfl⟩, ⟨⟨2, rfl⟩, ⟨⟨3, rfl⟩, ⟨⟨4, rfl⟩, ⟨⟨5, rfl⟩, ⟨⟨6, rfl⟩, ⟨⟨7, rfl⟩, ⟨⟨8, rfl⟩, ⟨⟨9, rfl⟩, ⟨⟨10, rfl⟩, ⟨⟨11, rfl⟩, ⟨⟨12, rfl⟩, ⟨⟨13, rfl⟩, ⟨⟨14, rfl⟩, ⟨⟨15, rfl⟩, ⟨⟨16, rfl⟩, ⟨⟨17, rfl⟩, ⟨⟨18, rfl⟩, ⟨⟨19, rfl⟩, trivial⟩⟩⟩⟩⟩⟩⟩⟩⟩⟩⟩⟩⟩⟩⟩⟩⟩⟩⟩⟩ [0, 1, 2, 3, 4, 5, 6, 7, 8] rfl (by decide)), hs150.nil, hs150.cap, hs149.nil, hs149.cap, hs145.nil, hs145.cap, hs144.nil, hs144.cap⟩
         · refine op_new (vs := [.bool false, .slice none 0 0, .slice none 0 0, .bool false, .slice none 0 0, .slice none 0 0]) (t := 26) hA hS 7 rfl rfl rfl rfl (fun g => .pointer (some ⟨g, 0, none⟩)) (d_alloc (z := .agg #[.bool false, .slice none 0 0, .slice none 0 0, .bool false, .slice none 0 0, .slice none 0 0]) (by kernel_rfl) rfl) rfl ?_
           intro g159 w160 hS
           refine ⟨(hS.partD (.cons _ (.cons_cons _ (.cons_cons _ (.cons_cons _ (.cons_cons _ (.cons_cons _ (.cons_cons _ (.cons_cons _ .slnil)))))))) 4 rfl (.refl _)), ?_⟩
           intro a hA
           refine any_one (by kernel_rfl) (op_new (vs := [.bool false, .slice none 0 0, .slice none 0 0, .bool false, .slice none 0 0, .slice none 0 0]) (t := 26) hA hS 6 rfl rfl rfl rfl (fun g => .pointer (some ⟨g, 0, none⟩)) (d_alloc (z := .agg #[.bool false, .slice none 0 0, .slice none 0 0, .bool false, .slice none 0 0, .slice none 0 0]) (by kernel_rfl) rfl) rfl ?_)
           intro g161 w162 hS
           refine ⟨(hS.partD (.cons _ (.cons _ (.cons_cons _ (.cons_cons _ (.cons_cons _ (.cons_cons _ (.cons_cons _ (.cons_cons _ (.cons_cons _ .slnil))))))))) 4 rfl (.refl _)), ?_⟩
           intro a hA
           refine any_one (by kernel_rfl) (op_store (us := [.bool ((rb m1.num)), .slice f79_1 ((words m1.num.natAbs).length) f79_c1, .slice f79_2 ((words m1.den).length) f79_c2, .bool false, .slice f143_1 0 f143_c1, .slice f143_2 1 f143_c2]) hA hS 8 rfl rfl rfl (sets_store rfl rfl rfl (by kernel_rfl) hS 0 rfl rfl rfl) 0 rfl rfl rfl rfl ?_)
           intro w163 hS
           refine ⟨(hS.partD (.cons _ (.cons _ (.cons_cons _ (.cons_cons _ (.cons_cons _ (.cons_cons _ (.cons_cons _ (.cons_cons _ (.cons_cons _ .slnil))))))))) 4 rfl (.refl _)), ?_⟩
           refine any_one (by kernel_rfl) (op_store (us := [.bool ((rb R.num)), .slice J66 ((words R.num.natAbs).length) J67, .slice J68 ((words R.den).length) J69, .bool false, .slice f148_1 0 f148_c1, .slice f148_2 1 f148_c2]) hA hS 9 rfl rfl rfl (sets_store rfl rfl rfl (by kernel_rfl) hS 1 rfl rfl rfl) 1 rfl rfl rfl rfl ?_)
           intro w164 hS
           refine ⟨(hS.partD (.cons _ (.cons _ (.cons_cons _ (.cons_cons _ (.cons_cons _ (.cons_cons _ (.cons_cons _ (.cons_cons _ (.cons_cons _ .slnil))))))))) 4 rfl (.refl _)), ?_⟩
           refine any_end (by kernel_rfl) ?_
           refine hJ120 _ _ ⟨g161, g159, f143_1, f143_c1, f143_2, f143_c2, f148_1, f148_c1, f148_2, f148_c2, hA.keep _ ⟨rfl, rfl, rfl, rfl, rfl, rfl, rfl, rfl, rfl, rfl, rfl, rfl, rfl, rfl, rfl, rfl, rfl, rfl, rfl, rfl, rfl, rfl, rfl, rfl, rfl, rfl, rfl, rfl, rfl, rfl, rfl, rfl, rfl, rfl, rfl, rfl, rfl, rfl, rfl, rfl, rfl, rfl, rfl, rfl, rfl, rfl, rfl, trivial⟩, (St.pickRL hS ⟨⟨0, rfl⟩, ⟨⟨1, rfl⟩, ⟨⟨2, rfl⟩, ⟨⟨3, rfl⟩, ⟨⟨4, rfl⟩, ⟨⟨5, rfl⟩, ⟨⟨6, rfl⟩, ⟨⟨7, rfl⟩, ⟨⟨8, rfl⟩, ⟨⟨9, rfl⟩, ⟨⟨10, rfl⟩, ⟨⟨11, rfl⟩, ⟨⟨12, rfl⟩, ⟨⟨13, rfl⟩, ⟨⟨14, rfl⟩, ⟨⟨15, rfl⟩, ⟨⟨16, rfl⟩, ⟨⟨17, rfl⟩, ⟨⟨18, rfl⟩, ⟨⟨19, rfl⟩, trivial⟩⟩⟩⟩⟩⟩⟩⟩⟩⟩⟩⟩⟩⟩⟩⟩⟩⟩⟩⟩ [1, 0, 2, 3, 4, 5, 6, 7, 8] rfl (by decide)), hs150.nil, hs150.cap, hs149.nil, hs149.cap, hs145.nil, hs145.cap, hs144.nil, hs144.cap⟩
       · refine op_new (vs := [.bool false, .slice none 0 0, .slice none 0 0, .bool false, .slice none 0 0, .slice none 0 0]) (t := 26) hA hS 6 rfl rfl rfl rfl (fun g => .pointer (some ⟨g, 0, none⟩)) (d_alloc (z := .agg #[.bool false, .slice none 0 0, .slice none 0 0, .bool false, .slice none 0 0, .slice none 0 0]) (by kernel_rfl) rfl) rfl ?_
         intro g165 w166 hS
         refine ⟨(hS.partD (.cons _ (.cons_cons _ (.cons_cons _ (.cons_cons _ (.cons_cons _ (.cons_cons _ (.cons_cons _ (.cons_cons _ .slnil)))))))) 2 rfl (.refl _)), ?_⟩
         intro a hA
         refine any_many (rs := [4, 7]) (by kernel_rfl) (by simp) ⟨?_, ?_, trivial⟩
         · refine op_call hA 4 rfl rfl rfl rfl (enters_func  rfl rfl (fun w => by kernel_rfl)) (rzero_any _) ?_
           rintro _ w171 ⟨f167_1, f167_c1, f167_2, f167_c2, rfl, hs168, hs169, hb170⟩
           replace hS := hS.call hb170
           replace hS := hS.addR hs168.rd
           replace hS := hS.addR hs169.rd
           refine ⟨_, rfl, (hS.partD (.cons _ (.cons_cons _ (.cons_cons _ (.cons_cons _ (.cons_cons _ (.cons_cons _ (.cons_cons _ (.cons_cons _ .slnil)))))))) 4 rfl (.refl _)), ?_⟩
           intro a hA
           refine any_tk (v := .agg #[.bool ((rb R.num)), .slice J66 ((words R.num.natAbs).length) J67, .slice J68 ((words R.den).length) J69, .bool false, .slice f167_1 0 f167_c1, .slice f167_2 1 f167_c2]) hA 5 rfl rfl rfl rfl hP (hS.partD (.cons _ (.cons_cons _ (.cons_cons _ (.cons_cons _ (.cons_cons _ (.cons_cons _ (.cons_cons _ (.cons_cons _ .slnil)))))))) 4 rfl (.refl _)) (fun w1 hS => d_build rfl (fun w => by kernel_rfl)) ?_
           intro a hA
           refine any_one (by kernel_rfl) (op_new (vs := [.bool false, .slice none 0 0, .slice none 0 0, .bool false, .slice none 0 0, .slice none 0 0]) (t := 26) hA hS 7 rfl rfl rfl rfl (fun g => .pointer (some ⟨g, 0, none⟩)) (d_alloc (z := .agg #[.bool false, .slice none 0 0, .slice none 0 0, .bool false, .slice none 0 0, .slice none 0 0]) (by kernel_rfl) rfl) rfl ?_)
           intro g172 w173 hS
           refine ⟨(hS.partD (.cons _ (.cons _ (.cons_cons _ (.cons_cons _ (.cons_cons _ (.cons_cons _ (.cons_cons _ (.cons_cons _ (.cons_cons _ .slnil))))))))) 4 rfl (.refl _)), ?_⟩
           intro a hA
           refine any_one (by kernel_rfl) (op_store (us := [.bool ((rb m1.num)), .slice f79_1 ((words m1.num.natAbs).length) f79_c1, .slice f79_2 ((words m1.den).length) f79_c2, .bool false, .slice f143_1 0 f143_c1, .slice f143_2 1 f143_c2]) hA hS 8 rfl rfl rfl (sets_store rfl rfl rfl (by kernel_rfl) hS 1 rfl rfl rfl) 1 rfl rfl rfl rfl ?_)
           intro w174 hS
           refine ⟨(hS.partD (.cons _ (.cons _ (.cons_cons _ (.cons_cons _ (.cons_cons _ (.cons_cons _ (.cons_cons _ (.cons_cons _ (.cons_cons _ .slnil))))))))) 4 rfl (.refl _)), ?_⟩
           refine any_one (by kernel_rfl) (op_store (us := [.bool ((rb R.num)), .slice J66 ((words R.num.natAbs).length) J67, .slice J68 ((words R.den).length) J69, .bool false, .slice f167_1 0 f167_c1, .slice f167_2 1 f167_c2]) hA hS 9 rfl rfl rfl (sets_store rfl rfl rfl (by kernel_rfl) hS 0 rfl rfl rfl) 0 rfl rfl rfl rfl ?_)
           intro w175 hS
           refine ⟨(hS.partD (.cons _ (.cons _ (.cons_cons _ (.cons_cons _ (.cons_cons _ (.cons_cons _ (.cons_cons _ (.cons_cons _ (.cons_cons _ .slnil))))))))) 4 rfl (.refl _)), ?_⟩
           refine any_end (by kernel_rfl) ?_
           refine hJ120 _ _ ⟨g165, g172, f143_1, f143_c1, f143_2, f143_c2, f167_1, f167_c1, f167_2, f167_c2, hA.keep _ ⟨rfl, rfl, rfl, rfl, rfl, rfl, rfl, rfl, rfl, rfl, rfl, rfl, rfl, rfl, rfl, rfl, rfl, rfl, rfl, rfl, rfl, rfl, rfl, rfl, rfl, rfl, rfl, rfl, rfl, rfl, rfl, rfl, rfl, rfl, rfl, rfl, rfl, rfl, rfl, rfl, rfl, rfl, rfl, rfl, rfl, rfl, rfl, trivial⟩, (St.pickRL hS ⟨⟨0, rfl⟩, ⟨⟨1, rfl⟩, ⟨⟨2, rfl⟩, ⟨⟨3, rfl⟩, ⟨⟨4, rfl⟩, ⟨⟨5, rfl⟩, ⟨⟨6, rfl⟩, ⟨⟨7, rfl⟩, ⟨⟨8, rfl⟩, ⟨⟨9, rfl⟩, ⟨⟨10, rfl⟩, ⟨⟨11, rfl⟩, ⟨⟨12, rfl⟩, ⟨⟨13, rfl⟩, ⟨⟨14, rfl⟩, ⟨⟨15, rfl⟩, ⟨⟨16, rfl⟩, ⟨⟨17, rfl⟩, ⟨⟨18, rfl⟩, ⟨⟨19, rfl⟩, trivial⟩⟩⟩⟩⟩⟩⟩⟩⟩⟩⟩⟩⟩⟩⟩⟩⟩⟩⟩⟩ [0, 1, 2, 3, 4, 5, 6, 7, 8] rfl (by decide)), hs169.nil, hs169.cap, hs168.nil, hs168.cap, hs145.nil, hs145.cap, hs144.nil, hs144.cap⟩
         · refine op_new (vs := [.bool false, .slice none 0 0, .slice none 0 0, .bool false, .slice none 0 0, .slice none 0 0]) (t := 26) hA hS 7 rfl rfl rfl rfl (fun g => .pointer (some ⟨g, 0, none⟩)) (d_alloc (z := .agg #[.bool false, .slice none 0 0, .slice none 0 0, .bool false, .slice none 0 0, .slice none 0 0]) (by kernel_rfl) rfl) rfl ?_
           intro g176 w177 hS
           refine ⟨(hS.partD (.cons _ (.cons _ (.cons_cons _ (.cons_cons _ (.cons_cons _ (.cons_cons _ (.cons_cons _ (.cons_cons _ (.cons_cons _ .slnil))))))))) 2 rfl (.refl _)), ?_⟩
           intro a hA
           refine any_one (by kernel_rfl) (op_call hA 4 rfl rfl rfl rfl (enters_func  rfl rfl (fun w => by kernel_rfl)) (rzero_any _) ?_)
           rintro _ w182 ⟨f178_1, f178_c1, f178_2, f178_c2, rfl, hs179, hs180, hb181⟩
           replace hS := hS.call hb181
           replace hS := hS.addR hs179.rd
           replace hS := hS.addR hs180.rd
           refine ⟨_, rfl, (hS.partD (.cons _ (.cons _ (.cons_cons _ (.cons_cons _ (.cons_cons _ (.cons_cons _ (.cons_cons _ (.cons_cons _ (.cons_cons _ .slnil))))))))) 4 rfl (.refl _)), ?_⟩
           intro a hA
           refine any_tk (v := .agg #[.bool ((rb R.num)), .slice J66 ((words R.num.natAbs).length) J67, .slice J68 ((words R.den).length) J69, .bool false, .slice f178_1 0 f178_c1, .slice f178_2 1 f178_c2]) hA 5 rfl rfl rfl rfl hP (hS.partD (.cons _ (.cons _ (.cons_cons _ (.cons_cons _ (.cons_cons _ (.cons_cons _ (.cons_cons _ (.cons_cons _ (.cons_cons _ .slnil))))))))) 4 rfl (.refl _)) (fun w1 hS => d_build rfl (fun w => by kernel_rfl)) ?_
           intro a hA
           refine any_one (by kernel_rfl) (op_store (us := [.bool ((rb m1.num)), .slice f79_1 ((words m1.num.natAbs).length) f79_c1, .slice f79_2 ((words m1.den).length) f79_c2, .bool false, .slice f143_1 0 f143_c1, .slice f143_2 1 f143_c2]) hA hS 8 rfl rfl rfl (sets_store rfl rfl rfl (by kernel_rfl) hS 1 rfl rfl rfl) 1 rfl rfl rfl rfl ?_)
           intro w183 hS
           refine ⟨(hS.partD (.cons _ (.cons _ (.cons_cons _ (.cons_cons _ (.cons_cons _ (.cons_cons _ (.cons_cons _ (.cons_cons _ (.cons_cons _ .slnil))))))))) 4 rfl (.refl _)), ?_⟩
           refine any_one (by kernel_rfl) (op_store (us := [.bool ((rb R.num)), .slice J66 ((words R.num.natAbs).length) J67, .slice J68 ((words R.den).length) J69, .bool false, .slice f178_1 0 f178_c1, .slice f178_2 1 f178_c2]) hA hS 9 rfl rfl rfl (sets_store rfl rfl rfl (by kernel_rfl) hS 0 rfl rfl rfl) 0 rfl rfl rfl rfl ?_)
           intro w184 hS
           refine ⟨(hS.partD (.cons _ (.cons _ (.cons_cons _ (.cons_cons _ (.cons_cons _ (.cons_cons _ (.cons_cons _ (.cons_cons _ (.cons_cons _ .slnil))))))))) 4 rfl (.refl _)), ?_⟩
           refine any_end (by kernel_rfl) ?_
           refine hJ120 _ _ ⟨g165, g176, f143_1, f143_c1, f143_2, f143_c2, f178_1, f178_c1, f178_2, f178_c2, hA.keep _ ⟨rfl, rfl, rfl, rfl, rfl, rfl, rfl, rfl, rfl, rfl, rfl, rfl, rfl, rfl, rfl, rfl, rfl, rfl, rfl, rfl, rfl, rfl, rfl, rfl, rfl, rfl, rfl, rfl, rfl, rfl, rfl, rfl, rfl, rfl, rfl, rfl, rfl, rfl, rfl, rfl, rfl, rfl, rfl, rfl, rfl, rfl, rfl, trivial⟩, (St.pickRL hS ⟨⟨0, rfl⟩, ⟨⟨1, rfl⟩, ⟨⟨2, rfl⟩, ⟨⟨3, rfl⟩, ⟨⟨4, rfl⟩, ⟨⟨5, rfl⟩, ⟨⟨6, rfl⟩, ⟨⟨7, rfl⟩, ⟨⟨8, rfl⟩, ⟨⟨9, rfl⟩, ⟨⟨10, rfl⟩, ⟨⟨11, rfl⟩, ⟨⟨12, rfl⟩, ⟨⟨13, rfl⟩, ⟨⟨14, rfl⟩, ⟨⟨15, rfl⟩, ⟨⟨16, rfl⟩, ⟨⟨17, rfl⟩, ⟨⟨18, rfl⟩, ⟨⟨19, rfl⟩, trivial⟩⟩⟩⟩⟩⟩⟩⟩⟩⟩⟩⟩⟩⟩⟩⟩⟩⟩⟩⟩ [0, 1, 2, 3, 4, 5, 6, 7, 8] rfl (by decide)), hs180.nil, hs180.cap, hs179.nil, hs179.cap, hs145.nil, hs145.cap, hs144.nil, hs144.cap⟩
       · refine op_new (vs := [.bool false, .slice none 0 0, .slice none 0 0, .bool false, .slice none 0 0, .slice none 0 0]) (t := 26) hA hS 7 rfl rfl rfl rfl (fun g => .pointer (some ⟨g, 0, none⟩)) (d_alloc (z := .agg #[.bool false, .slice none 0 0, .slice none 0 0, .bool false, .slice none 0 0, .slice none 0 0]) (by kernel_rfl) rfl) rfl ?_
         intro g185 w186 hS
         refine ⟨(hS.partD (.cons _ (.cons_cons _ (.cons_cons _ (.cons_cons _ (.cons_cons _ (.cons_cons _ (.cons_cons _ (.cons_cons _ .slnil)))))))) 2 rfl (.refl _)), ?_⟩
         intro a hA
         refine any_many (rs := [4, 6]) (by kernel_rfl) (by simp) ⟨?_, ?_, trivial⟩
         · refine op_call hA 4 rfl rfl rfl rfl (enters_func  rfl rfl (fun w => by kernel_rfl)) (rzero_any _) ?_
           rintro _ w191 ⟨f187_1, f187_c1, f187_2, f187_c2, rfl, hs188, hs189, hb190⟩
           replace hS := hS.call hb190
           replace hS := hS.addR hs188.rd
           replace hS := hS.addR hs189.rd
           refine ⟨_, rfl, (hS.partD (.cons _ (.cons_cons _ (.cons_cons _ (.cons_cons _ (.cons_cons _ (.cons_cons _ (.cons_cons _ (.cons_cons _ .slnil)))))))) 4 rfl (.refl _)), ?_⟩
           intro a hA
           refine any_tk (v := .agg #[.bool ((rb R.num)), .slice J66 ((words R.num.natAbs).length) J67, .slice J68 ((words R.den).length) J69, .bool false, .slice f187_1 0 f187_c1, .slice f187_2 1 f187_c2]) hA 5 rfl rfl rfl rfl hP (hS.partD (.cons _ (.cons_cons _ (.cons_cons _ (.cons_cons _ (.cons_cons _ (.cons_cons _ (.cons_cons _ (.cons_cons _ .slnil)))))))) 4 rfl (.refl _)) (fun w1 hS => d_build rfl (fun w => by kernel_rfl)) ?_
           intro a hA
           refine any_one (by kernel_rfl) (op_new (vs := [.bool false, .slice none 0 0, .slice none 0 0, .bool false, .slice none 0 0, .slice none 0 0]) (t := 26) hA hS 6 rfl rfl rfl rfl (fun g => .pointer (some ⟨g, 0, none⟩)) (d_alloc (z := .agg #[.bool false, .slice none 0 0, .slice none 0 0, .bool false, .slice none 0 0, .slice none 0 0]) (by kernel_rfl) rfl) rfl ?_)
           intro g192 w193 hS
           refine ⟨(hS.partD (.cons _ (.cons _ (.cons_cons _ (.cons_cons _ (.cons_cons _ (.cons_cons _ (.cons_cons _ (.cons_cons _ (.cons_cons _ .slnil))))))))) 4 rfl (.refl _)), ?_⟩
           intro a hA
           refine any_one (by kernel_rfl) (op_store (us := [.bool ((rb m1.num)), .slice f79_1 ((words m1.num.natAbs).length) f79_c1, .slice f79_2 ((words m1.den).length) f79_c2, .bool false, .slice f143_1 0 f143_c1, .slice f143_2 1 f143_c2]) hA hS 8 rfl rfl rfl (sets_store rfl rfl rfl (by kernel_rfl) hS 0 rfl rfl rfl) 0 rfl rfl rfl rfl ?_)
           intro w194 hS
           refine ⟨(hS.partD (.cons _ (.cons _ (.cons_cons _ (.cons_cons _ (.cons_cons _ (.cons_cons _ (.cons_cons _ (.cons_cons _ (.cons_cons _ .slnil))))))))) 4 rfl (.refl _)), ?_⟩
           refine any_one (by kernel_rfl) (op_store (us := [.bool ((rb R.num)), .slice J66 ((words R.num.natAbs).length) J67, .slice J68 ((words R.den).length) J69, .bool false, .slice f187_1 0 f187_c1, .slice f187_2 1 f187_c2]) hA hS 9 rfl rfl rfl (sets_store rfl rfl rfl (by kernel_rfl) hS 1 rfl rfl rfl) 1 rfl rfl rfl rfl ?_)
           intro w195 hS
           refine ⟨(hS.partD (.cons _ (.cons _ (.cons_cons _ (.cons_cons _ (.cons_cons _ (.cons_cons _ (.cons_cons _ (.cons_cons _ (.cons_cons _ .slnil))))))))) 4 rfl (.refl _)), ?_⟩
           refine any_end (by kernel_rfl) ?_
           refine hJ120 _ _ ⟨g192, g185, f143_1, f143_c1, f143_2, f143_c2, f187_1, f187_c1, f187_2, f187_c2, hA.keep _ ⟨rfl, rfl, rfl, rfl, rfl, rfl, rfl, rfl, rfl, rfl, rfl, rfl, rfl, rfl, rfl, rfl, rfl, rfl, rfl, rfl, rfl, rfl, rfl, rfl, rfl, rfl, rfl, rfl, rfl, rfl, rfl, rfl, rfl, rfl, rfl, rfl, rfl, rfl, rfl, rfl, rfl, rfl, rfl, rfl, rfl, rfl, rfl, trivial⟩, (St.pickRL hS ⟨⟨0, rfl⟩, ⟨⟨1, rfl⟩, ⟨⟨2, rfl⟩, ⟨⟨3, rfl⟩, ⟨⟨4, rfl⟩, ⟨⟨5, rfl⟩, ⟨⟨6, rfl⟩, ⟨⟨7, rfl⟩, ⟨⟨8, rfl⟩, ⟨⟨9, rfl⟩, ⟨⟨10, rfl⟩, ⟨⟨11, rfl⟩, ⟨⟨12, rfl⟩, ⟨⟨13, rfl⟩, ⟨⟨14, rfl⟩, ⟨⟨15, rfl⟩, ⟨⟨16, rfl⟩, ⟨⟨17, rfl⟩, ⟨⟨18, rfl⟩, ⟨⟨19, rfl⟩, trivial⟩⟩⟩⟩⟩⟩⟩⟩⟩⟩⟩⟩⟩⟩⟩⟩⟩⟩⟩⟩ [1, 0, 2, 3, 4, 5, 6, 7, 8] rfl (by decide)), hs189.nil, hs189.cap, hs188.nil, hs188.cap, hs145.nil, hs145.cap, hs144.nil, hs144.cap⟩
         · refine op_new (vs := [.bool false, .slice none 0 0, .slice none 0 0, .bool false, .slice none 0 0, .slice none 0 0]) (t := 26) hA hS 6 rfl rfl rfl rfl (fun g => .pointer (some ⟨g, 0, none⟩)) (d_alloc (z := .agg #[.bool false, .slice none 0 0, .slice none 0 0, .bool false, .slice none 0 0, .slice none 0 0]) (by kernel_rfl) rfl) rfl ?_
           intro g196 w197 hS
           refine ⟨(hS.partD (.cons _ (.cons _ (.cons_cons _ (.cons_cons _ (.cons_cons _ (.cons_cons _ (.cons_cons _ (.cons_cons _ (.cons_cons _ .slnil))))))))) 2 rfl (.refl _)), ?_⟩
           intro a hA
           refine any_one (by kernel_rfl) (op_call hA 4 rfl rfl rfl rfl (enters_func  rfl rfl (fun w => by kernel_rfl)) (rzero_any _) ?_)
           rintro _ w202 ⟨f198_1, f198_c1, f198_2, f198_c2, rfl, hs199, hs200, hb201⟩
           replace hS := hS.call hb201
           replace hS := hS.addR hs199.rd
           replace hS := hS.addR hs200.rd
           refine ⟨_, rfl, (hS.partD (.cons _ (.cons _ (.cons_cons _ (.cons_cons _ (.cons_cons _ (.cons_cons _ (.cons_cons _ (.cons_cons _ (.cons_cons _ .slnil))))))))) 4 rfl (.refl _)), ?_⟩
           intro a hA
           refine any_tk (v := .agg #[.bool ((rb R.num)), .slice J66 ((words R.num.natAbs).length) J67, .slice J68 ((words R.den).length) J69, .bool false, .slice f198_1 0 f198_c1, .slice f198_2 1 f198_c2]) hA 5 rfl rfl rfl rfl hP (hS.partD (.cons _ (.cons _ (.cons_cons _ (.cons_cons _ (.cons_cons _ (.cons_cons _ (.cons_cons _ (.cons_cons _ (.cons_cons _ .slnil))))))))) 4 rfl (.refl _)) (fun w1 hS => d_build rfl (fun w => by kernel_rfl)) ?_
           intro a hA
           refine any_one (by kernel_rfl) (op_store (us := [.bool ((rb m1.num)), .slice f79_1 ((words m1.num.natAbs).length) f79_c1, .slice f79_2 ((words m1.den).length) f79_c2, .bool false, .slice f143_1 0 f143_c1, .slice f143_2 1 f143_c2]) hA hS 8 rfl rfl rfl (sets_store rfl rfl rfl (by kernel_rfl) hS 0 rfl rfl rfl) 0 rfl rfl rfl rfl ?_)
           intro w203 hS
           refine ⟨(hS.partD (.cons _ (.cons _ (.cons_cons _ (.cons_cons _ (.cons_cons _ (.cons_cons _ (.cons_cons _ (.cons_cons _ (.cons_cons _ .slnil))))))))) 4 rfl (.refl _)), ?_⟩
           refine any_one (by kernel_rfl) (op_store (us := [.bool ((rb R.num)), .slice J66 ((words R.num.natAbs).length) J67, .slice J68 ((words R.den).length) J69, .bool false, .slice f198_1 0 f198_c1, .slice f198_2 1 f198_c2]) hA hS 9 rfl rfl rfl (sets_store rfl rfl rfl (by kernel_rfl) hS 1 rfl rfl rfl) 1 rfl rfl rfl rfl ?_)
           intro w204 hS
           refine ⟨(hS.partD (.cons _ (.cons _ (.cons_cons _ (.cons_cons _ (.cons_cons _ (.cons_cons _ (.cons_cons _ (.cons_cons _ (.cons_cons _ .slnil))))))))) 4 rfl (.refl _)), ?_⟩
           refine any_end (by kernel_rfl) ?_
           refine hJ120 _ _ ⟨g196, g185, f143_1, f143_c1, f143_2, f143_c2, f198_1, f198_c1, f198_2, f198_c2, hA.keep _ ⟨rfl, rfl, rfl, rfl, rfl, rfl, rfl, rfl, rfl, rfl, rfl, rfl, rfl, rfl, rfl, rfl, rfl, rfl, rfl, rfl, rfl, rfl, rfl, rfl, rfl, rfl, rfl, rfl, rfl, rfl, rfl, rfl, rfl, rfl, rfl, rfl, rfl, rfl, rfl, rfl, rfl, rfl, rfl, rfl, rfl, rfl, rfl, trivial⟩, (St.pickRL hS ⟨⟨0, rfl⟩, ⟨⟨1, rfl⟩, ⟨⟨2, rfl⟩, ⟨⟨3, rfl⟩, ⟨⟨4, rfl⟩, ⟨⟨5, rfl⟩, ⟨⟨6, rfl⟩, ⟨⟨7, rfl⟩, ⟨⟨8, rfl⟩, ⟨⟨9, rfl⟩, ⟨⟨10, rfl⟩, ⟨⟨11, rfl⟩, ⟨⟨12, rfl⟩, ⟨⟨13, rfl⟩, ⟨⟨14, rfl⟩, ⟨⟨15, rfl⟩, ⟨⟨16, rfl⟩, ⟨⟨17, rfl⟩, ⟨⟨18, rfl⟩, ⟨⟨19, rfl⟩, trivial⟩⟩⟩⟩⟩⟩⟩⟩⟩⟩⟩⟩⟩⟩⟩⟩⟩⟩⟩⟩ [1, 0, 2, 3, 4, 5, 6, 7, 8] rfl (by decide)), hs200.nil, hs200.cap, hs199.nil, hs199.cap, hs145.nil, hs145.cap, hs144.nil, hs144.cap⟩
     · refine op_new (vs := [.bool false, .slice none 0 0, .slice none 0 0, .bool false, .slice none 0 0, .slice none 0 0]) (t := 26) hA hS 6 rfl rfl rfl rfl (fun g => .pointer (some ⟨g, 0, none⟩)) (d_alloc (z := .agg #[.bool false, .slice none 0 0, .slice none 0 0, .bool false, .slice none 0 0, .slice none 0 0]) (by kernel_rfl) rfl) rfl ?_
       intro g205 w206 hS
       refine ⟨(hS.partD (.cons _ (.cons_cons _ (.cons_cons _ (.cons_cons _ (.cons_cons _ (.cons_cons _ (.cons_cons _ (.cons_cons _ .slnil)))))))) 0 rfl (.refl _)), ?_⟩
       intro a hA
       refine any_many (rs := [1, 7]) (by kernel_rfl) (by simp) ⟨?_, ?_, trivial⟩
       · refine op_call hA 1 rfl rfl rfl rfl (enters_func  rfl rfl (fun w => by kernel_rfl)) (rzero_any _) ?_
         rintro _ w211 ⟨f207_1, f207_c1, f207_2, f207_c2, rfl, hs208, hs209, hb210⟩
         replace hS := hS.call hb210
         replace hS := hS.addR hs208.rd
         replace hS := hS.addR hs209.rd
         refine ⟨_, rfl, (hS.partD (.cons _ (.cons_cons _ (.cons_cons _ (.cons_cons _ (.cons_cons _ (.cons_cons _ (.cons_cons _ (.cons_cons _ .slnil)))))))) 2 rfl (.refl _)), ?_⟩
         intro a hA
         refine any_tk (v := .agg #[.bool ((rb m1.num)), .slice f79_1 ((words m1.num.natAbs).length) f79_c1, .slice f79_2 ((words m1.den).length) f79_c2, .bool false, .slice f207_1 0 f207_c1, .slice f207_2 1 f207_c2]) hA 2 rfl rfl rfl rfl hP (hS.partD (.cons _ (.cons_cons _ (.cons_cons _ (.cons_cons _ (.cons_cons _ (.cons_cons _ (.cons_cons _ (.cons_cons _ .slnil)))))))) 2 rfl (.refl _)) (fun w1 hS => d_build rfl (fun w => by kernel_rfl)) ?_
         intro a hA
         refine any_many (rs := [4, 7]) (by kernel_rfl) (by simp) ⟨?_, ?_, trivial⟩
         · refine op_call hA 4 rfl rfl rfl rfl (enters_func  rfl rfl (fun w => by kernel_rfl)) (rzero_any _) ?_
           rintro _ w216 ⟨f212_1, f212_c1, f212_2, f212_c2, rfl, hs213, hs214, hb215⟩
           replace hS := hS.call hb215
           replace hS := hS.addR hs213.rd
           replace hS := hS.addR hs214.rd
           refine ⟨_, rfl, (hS.partD (.cons _ (.cons_cons _ (.cons_cons _ (.cons_cons _ (.cons_cons _ (.cons_cons _ (.cons_cons _ (.cons_cons _ .slnil)))))))) 4 rfl (.refl _)), ?_⟩
           intro a hA
           refine any_tk (v := .agg #[.bool ((rb R.num)), .slice J66 ((words R.num.natAbs).length) J67, .slice J68 ((words R.den).length) J69, .bool false, .slice f212_1 0 f212_c1, .slice f212_2 1 f212_c2]) hA 5 rfl rfl rfl rfl hP (hS.partD (.cons _ (.cons_cons _ (.cons_cons _ (.cons_cons _ (.cons_cons _ (.cons_cons _ (.cons_cons _ (.cons_cons _ .slnil)))))))) 4 rfl (.refl _)) (fun w1 hS => d_build rfl (fun w => by kernel_rfl)) ?_
           intro a hA
           refine any_one (by kernel_rfl) (op_new (vs := [.bool false, .slice none 0 0, .slice none 0 0, .bool false, .slice none 0 0, .slice none 0 0]) (t := 26) hA hS 7 rfl rfl rfl rfl (fun g => .pointer (some ⟨g, 0, none⟩)) (d_alloc (z := .agg #[.bool false, .slice none 0 0, .slice none 0 0, .bool false, .slice none 0 0, .slice none 0 0]) (by kernel_rfl) rfl) rfl ?_)
           intro g217 w218 hS
           refine ⟨(hS.partD (.cons _ (.cons _ (.cons_cons _ (.cons_cons _ (.cons_cons _ (.cons_cons _ (.cons_cons _ (.cons_cons _ (.cons_cons _ .slnil))))))))) 4 rfl (.refl _)), ?_⟩
           intro a hA
           refine any_one (by kernel_rfl) (op_store (us := [.bool ((rb m1.num)), .slice f79_1 ((words m1.num.natAbs).length) f79_c1, .slice f79_2 ((words m1.den).length) f79_c2, .bool false, .slice f207_1 0 f207_c1, .slice f207_2 1 f207_c2]) hA hS 8 rfl rfl rfl (sets_store rfl rfl rfl (by kernel_rfl) hS 1 rfl rfl rfl) 1 rfl rfl rfl rfl ?_)
           intro w219 hS
           refine ⟨(hS.partD (.cons _ (.cons _ (.cons_cons _ (.cons_cons _ (.cons_cons _ (.cons_cons _ (.cons_cons _ (.cons_cons _ (.cons_cons _ .slnil))))))))) 4 rfl (.refl _)), ?_⟩
           refine any_one (by kernel_rfl) (op_store (us := [.bool ((rb R.num)), .slice J66 ((words R.num.natAbs).length) J67, .slice J68 ((words R.den).length) J69, .bool false, .slice f212_1 0 f212_c1, .slice f212_2 1 f212_c2]) hA hS 9 rfl rfl rfl (sets_store rfl rfl rfl (by kernel_rfl) hS 0 rfl rfl rfl) 0 rfl rfl rfl rfl ?_)
           intro w220 hS
           refine ⟨(hS.partD (.cons _ (.cons _ (.cons_cons _ (.cons_cons _ (.cons_cons _ (.cons_cons _ (.cons_cons _ (.cons_cons _ (.cons_cons _ .slnil))))))))) 4 rfl (.refl _)), ?_⟩
           refine any_end (by kernel_rfl) ?_
           refine hJ120 _ _ ⟨g205, g217, f207_1, f207_c1, f207_2, f207_c2, f212_1, f212_c1, f212_2, f212_c2, hA.keep _ ⟨rfl, rfl, rfl, rfl, rfl, rfl, rfl, rfl, rfl, rfl, rfl, rfl, rfl, rfl, rfl, rfl, rfl, rfl, rfl, rfl, rfl, rfl, rfl, rfl, rfl, rfl, rfl, rfl, rfl, rfl, rfl, rfl, rfl, rfl, rfl, rfl, rfl, rfl, rfl, rfl, rfl, rfl, rfl, rfl, rfl, rfl, rfl, trivial⟩, (St.pickRL hS ⟨⟨0, rfl⟩, ⟨⟨1, rfl⟩, ⟨⟨2, rfl⟩, ⟨⟨3, rfl⟩, ⟨⟨4, rfl⟩, ⟨⟨5, rfl⟩, ⟨⟨6, rfl⟩, ⟨⟨7, rfl⟩, ⟨⟨8, rfl⟩, ⟨⟨9, rfl⟩, ⟨⟨10, rfl⟩, ⟨⟨11, rfl⟩, ⟨⟨12, rfl⟩, ⟨⟨13, rfl⟩, ⟨⟨14, rfl⟩, ⟨⟨15, rfl⟩, ⟨⟨16, rfl⟩, ⟨⟨17, rfl⟩, ⟨⟨18, rfl⟩, ⟨⟨19, rfl⟩, trivial⟩⟩⟩⟩⟩⟩⟩⟩⟩⟩⟩⟩⟩⟩⟩⟩⟩⟩⟩⟩ [0, 1, 2, 3, 4, 5, 6, 7, 8] rfl (by decide)), hs214.nil, hs214.cap, hs213.nil, hs213.cap, hs209.nil, hs209.cap, hs208.nil, hs208.cap⟩
         · refine op_new (vs := [.bool false, .slice none 0 0, .slice none 0 0, .bool false, .slice none 0 0, .slice none 0 0]) (t := 26) hA hS 7 rfl rfl rfl rfl (fun g => .pointer (some ⟨g, 0, none⟩)) (d_alloc (z := .agg #[.bool false, .slice none 0 0, .slice none 0 0, .bool false, .slice none 0 0, .slice none 0 0]) (by kernel_rfl) rfl) rfl ?_
           intro g221 w222 hS
           refine ⟨(hS.partD (.cons _ (.cons _ (.cons_cons _ (.cons_cons _ (.cons_cons _ (.cons_cons _ (.cons_cons _ (.cons_cons _ (.cons_cons _ .slnil))))))))) 2 rfl (.refl _)), ?_⟩
           intro a hA
           refine any_one (by kernel_rfl) (op_call hA 4 rfl rfl rfl rfl (enters_func  rfl rfl (fun w => by kernel_rfl)) (rzero_any _) ?_)
           rintro _ w227 ⟨f223_1, f223_c1, f223_2, f223_c2, rfl, hs224, hs225, hb226⟩
           replace hS := hS.call hb226
           replace hS := hS.addR hs224.rd
           replace hS := hS.addR hs225.rd
           refine ⟨_, rfl, (hS.partD (.cons _ (.cons _ (.cons_cons _ (.cons_cons _ (.cons_cons _ (.cons_cons _ (.cons_cons _ (.cons_cons _ (.cons_cons _ .slnil))))))))) 4 rfl (.refl _)), ?_⟩
           intro a hA
           refine any_tk (v := .agg #[.bool ((rb R.num)), .slice J66 ((words R.num.natAbs).length) J67, .slice J68 ((words R.den).length) J69, .bool false, .slice f223_1 0 f223_c1, .slice f223_2 1 f223_c2]) hA 5 rfl rfl rfl rfl hP (hS.partD (.cons _ (.cons _ (.cons_cons _ (.cons_cons _ (.cons_cons _ (.cons_cons _ (.cons_cons _ (.cons_cons _ (.cons_cons _ .slnil))))))))) 4 rfl (.refl _)) (fun w1 hS => d_build rfl (fun w => by kernel_rfl)) ?_
           intro a hA
           refine any_one (by kernel_rfl) (op_store (us := [.bool ((rb m1.num)), .slice f79_1 ((words m1.num.natAbs).length) f79_c1, .slice f79_2 ((words m1.den).length) f79_c2, .bool false, .slice f207_1 0 f207_c1, .slice f207_2 1 f207_c2]) hA hS 8 rfl rfl rfl (sets_store rfl rfl rfl (by kernel_rfl) hS 1 rfl rfl rfl) 1 rfl rfl rfl rfl ?_)
           intro w228 hS
           refine ⟨(hS.partD (.cons _ (.cons _ (.cons_cons _ (.cons_cons _ (.cons_cons _ (.cons_cons _ (.cons_cons _ (.cons_cons _ (.cons_cons _ .slnil))))))))) 4 rfl (.refl _)), ?_⟩
           refine any_one (by kernel_rfl) (op_store (us := [.bool ((rb R.num)), .slice J66 ((words R.num.natAbs).length) J67, .slice J68 ((words R.den).length) J69, .bool false, .slice f223_1 0 f223_c1, .slice f223_2 1 f223_c2]) hA hS 9 rfl rfl rfl (sets_store rfl rfl rfl (by kernel_rfl) hS 0 rfl rfl rfl) 0 rfl rfl rfl rfl ?_)
           intro w229 hS
           refine ⟨(hS.partD (.cons _ (.cons _ (.cons_cons _ (.cons_cons _ (.cons_cons _ (.cons_cons _ (.cons_cons _ (.cons_cons _ (.cons_cons _ .slnil))))))))) 4 rfl (.refl _)), ?_⟩
           refine any_end (by kernel_rfl) ?_
           refine hJ120 _ _ ⟨g205, g221, f207_1, f207_c1, f207_2, f207_c2, f223_1, f223_c1, f223_2, f223_c2, hA.keep _ ⟨rfl, rfl, rfl, rfl, rfl, rfl, rfl, rfl, rfl, rfl, rfl, rfl, rfl, rfl, rfl, rfl, rfl, rfl, rfl, rfl, rfl, rfl, rfl, rfl, rfl, rfl, rfl, rfl, rfl, rfl, rfl, rfl, rfl, rfl, rfl, rfl, rfl, rfl, rfl, rfl, rfl, rfl, rfl, rfl, rfl, rfl, rfl, trivial⟩, (St.pickRL hS ⟨⟨0, rfl⟩, ⟨⟨1, rfl⟩, ⟨⟨2, rfl⟩, ⟨⟨3, rfl⟩, ⟨⟨4, rfl⟩, ⟨⟨5, rfl⟩, ⟨⟨6, rfl⟩, ⟨⟨7, rfl⟩, ⟨⟨8, rfl⟩, ⟨⟨9, rfl⟩, ⟨⟨10, rfl⟩, ⟨⟨11, rfl⟩, ⟨⟨12, rfl⟩, ⟨⟨13, rfl⟩, ⟨⟨14, rfl⟩, ⟨⟨15, rfl⟩, ⟨⟨16, rfl⟩, ⟨⟨17, rfl⟩, ⟨⟨18, rfl⟩, ⟨⟨19, rfl⟩, trivial⟩⟩⟩⟩⟩⟩⟩⟩⟩⟩⟩⟩⟩⟩⟩⟩⟩⟩⟩⟩ [0, 1, 2, 3, 4, 5, 6, 7, 8] rfl (by decide)), hs225.nil, hs225.cap, hs224.nil, hs224.cap, hs209.nil, hs209.cap, hs208.nil, hs208.cap⟩
       · refine op_new (vs := [.bool false, .slice none 0 0, .slice none 0 0, .bool false, .slice none 0 0, .slice none 0 0]) (t := 26) hA hS 7 rfl rfl rfl rfl (fun g => .pointer (some ⟨g, 0, none⟩)) (d_alloc (z := .agg #[.bool false, .slice none 0 0, .slice none 0 0, .bool false, .slice none 0 0, .slice none 0 0]) (by kernel_rfl) rfl) rfl ?_
         intro g230 w231 hS
         refine ⟨(hS.partD (.cons _ (.cons _ (.cons_cons _ (.cons_cons _ (.cons_cons _ (.cons_cons _ (.cons_cons _ (.cons_cons _ (.cons_cons _ .slnil))))))))) 0 rfl (.refl _)), ?_⟩
         intro a hA
         refine any_one (by kernel_rfl) (op_call hA 1 rfl rfl rfl rfl (enters_func  rfl rfl (fun w => by kernel_rfl)) (rzero_any _) ?_)
         rintro _ w236 ⟨f232_1, f232_c1, f232_2, f232_c2, rfl, hs233, hs234, hb235⟩
         replace hS := hS.call hb235
         replace hS := hS.addR hs233.rd
         replace hS := hS.addR hs234.rd
         refine ⟨_, rfl, (hS.partD (.cons _ (.cons _ (.cons_cons _ (.cons_cons _ (.cons_cons _ (.cons_cons _ (.cons_cons _ (.cons_cons _ (.cons_cons _ .slnil))))))))) 2 rfl (.refl _)), ?_⟩
         intro a hA
         refine any_tk (v := .agg #[.bool ((rb m1.num)), .slice f79_1 ((words m1.num.natAbs).length) f79_c1, .slice f79_2 ((words m1.den).length) f79_c2, .bool false, .slice f232_1 0 f232_c1, .slice f232_2 1 f232_c2]) hA 2 rfl rfl rfl rfl hP (hS.partD (.cons _ (.cons _ (.cons_cons _ (.cons_cons _ (.cons_cons _ (.cons_cons _ (.cons_cons _ (.cons_cons _ (.cons_cons _ .slnil))))))))) 2 rfl (.refl _)) (fun w1 hS => d_build rfl (fun w => by kernel_rfl)) ?_
         intro a hA
         refine any_one (by kernel_rfl) (op_call hA 4 rfl rfl rfl rfl (enters_func  rfl rfl (fun w => by kernel_rfl)) (rzero_any _) ?_)
         rintro _ w241 ⟨f237_1, f237_c1, f237_2, f237_c2, rfl, hs238, hs239, hb240⟩
         replace hS := hS.call hb240
         replace hS := hS.addR hs238.rd
         replace hS := hS.addR hs239.rd
         refine ⟨_, rfl, (hS.partD (.cons _ (.cons _ (.cons_cons _ (.cons_cons _ (.cons_cons _ (.cons_cons _ (.cons_cons _ (.cons_cons _ (.cons_cons _ .slnil))))))))) 4 rfl (.refl _)), ?_⟩
         intro a hA
         refine any_tk (v := .agg #[.bool ((rb R.num)), .slice J66 ((words R.num.natAbs).length) J67, .slice J68 ((words R.den).length) J69, .bool false, .slice f237_1 0 f237_c1, .slice f237_2 1 f237_c2]) hA 5 rfl rfl rfl rfl hP (hS.partD (.cons _ (.cons _ (.cons_cons _ (.cons_cons _ (.cons_cons _ (.cons_cons _ (.cons_cons _ (.cons_cons _ (.cons_cons _ .slnil))))))))) 4 rfl (.refl _)) (fun w1 hS => d_build rfl (fun w => by kernel_rfl)) ?_
         intro a hA
         refine any_one (by kernel_rfl) (op_store (us := [.bool ((rb m1.num)), .slice f79_1 ((words m1.num.natAbs).length) f79_c1, .slice f79_2 ((words m1.den).length) f79_c2, .bool false, .slice f232_1 0 f232_c1, .slice f232_2 1 f232_c2]) hA hS 8 rfl rfl rfl (sets_store rfl rfl rfl (by kernel_rfl) hS 1 rfl rfl rfl) 1 rfl rfl rfl rfl ?_)
         intro w242 hS
         refine ⟨(hS.partD (.cons _ (.cons _ (.cons_cons _ (.cons_cons _ (.cons_cons _ (.cons_cons _ (.cons_cons _ (.cons_cons _ (.cons_cons _ .slnil))))))))) 4 rfl (.refl _)), ?_⟩
         refine any_one (by kernel_rfl) (op_store (us := [.bool ((rb R.num)), .slice J66 ((words R.num.natAbs).length) J67, .slice J68 ((words R.den).length) J69, .bool false, .slice f237_1 0 f237_c1, .slice f237_2 1 f237_c2]) hA hS 9 rfl rfl rfl (sets_store rfl rfl rfl (by kernel_rfl) hS 0 rfl rfl rfl) 0 rfl rfl rfl rfl ?_)
         intro w243 hS
         refine ⟨(hS.partD (.cons _ (.cons _ (.cons_cons _ (.cons_cons _ (.cons_cons _ (.cons_cons _ (.cons_cons _ (.cons_cons _ (.cons_cons _ .slnil))))))))) 4 rfl (.refl _)), ?_⟩
         refine any_end (by kernel_rfl) ?_
         refine hJ120 _ _ ⟨g205, g230, f232_1, f232_c1, f232_2, f232_c2, f237_1, f237_c1, f237_2, f237_c2, hA.keep _ ⟨rfl, rfl, rfl, rfl, rfl, rfl, rfl, rfl, rfl, rfl, rfl, rfl, rfl, rfl, rfl, rfl, rfl, rfl, rfl, rfl, rfl, rfl, rfl, rfl, rfl, rfl, rfl, rfl, rfl, rfl, rfl, rfl, rfl, rfl, rfl, rfl, rfl, rfl, rfl, rfl, rfl, rfl, rfl, rfl, rfl, rfl, rfl, trivial⟩, (St.pickRL hS ⟨⟨0, rfl⟩, ⟨⟨1, rfl⟩, ⟨⟨2, rfl⟩, ⟨⟨3, rfl⟩, ⟨⟨4, rfl⟩, ⟨⟨5, rfl⟩, ⟨⟨6, rfl⟩, ⟨⟨7, rfl⟩, ⟨⟨8, rfl⟩, ⟨⟨9, rfl⟩, ⟨⟨10, rfl⟩, ⟨⟨11, rfl⟩, ⟨⟨12, rfl⟩, ⟨⟨13, rfl⟩, ⟨⟨14, rfl⟩, ⟨⟨15, rfl⟩, ⟨⟨16, rfl⟩, ⟨⟨17, rfl⟩, ⟨⟨18, rfl⟩, ⟨⟨19, rfl⟩, trivial⟩⟩⟩⟩⟩⟩⟩⟩⟩⟩⟩⟩⟩⟩⟩⟩⟩⟩⟩⟩ [0, 1, 2, 3, 4, 5, 6, 7, 8] rfl (by decide)), hs239.nil, hs239.cap, hs238.nil, hs238.cap, hs234.nil, hs234.cap, hs233.nil, hs233.cap⟩
     · refine op_new (vs := [.bool false, .slice none 0 0, .slice none 0 0, .bool false, .slice none 0 0, .slice none 0 0]) (t := 26) hA hS 7 rfl rfl rfl rfl (fun g => .pointer (some ⟨g, 0, none⟩)) (d_alloc (z := .agg #[.bool false, .slice none 0 0, .slice none 0 0, .bool false, .slice none 0 0, .slice none 0 0]) (by kernel_rfl) rfl) rfl ?_
       intro g244 w245 hS
       refine ⟨(hS.partD (.cons _ (.cons_cons _ (.cons_cons _ (.cons_cons _ (.cons_cons _ (.cons_cons _ (.cons_cons _ (.cons_cons _ .slnil)))))))) 0 rfl (.refl _)), ?_⟩
       intro a hA
       refine any_many (rs := [1, 6]) (by kernel_rfl) (by simp) ⟨?_, ?_, trivial⟩
       · refine op_call hA 1 rfl rfl rfl rfl (enters_func  rfl rfl (fun w => by kernel_rfl)) (rzero_any _) ?_
         rintro _ w250 ⟨f246_1, f246_c1, f246_2, f246_c2, rfl, hs247, hs248, hb249⟩
         replace hS := hS.call hb249
         replace hS := hS.addR hs247.rd
         replace hS := hS.addR hs248.rd
         refine ⟨_, rfl, (hS.partD (.cons _ (.cons_cons _ (.cons_cons _ (.cons_cons _ (.cons_cons _ (.cons_cons _ (.cons_cons _ (.cons_cons _ .slnil)))))))) 2 rfl (.refl _)), ?_⟩
         intro a hA
         refine any_tk (v := .agg #[.bool ((rb m1.num)), .slice f79_1 ((words m1.num.natAbs).length) f79_c1, .slice f79_2 ((words m1.den).length) f79_c2, .bool false, .slice f246_1 0 f246_c1, .slice f246_2 1 f246_c2]) hA 2 rfl rfl rfl rfl hP (hS.partD (.cons _ (.cons_cons _ (.cons_cons _ (.cons_cons _ (.cons_cons _ (.cons_cons _ (.cons_cons _ (.cons_cons _ .slnil)))))))) 2 rfl (.refl _)) (fun w1 hS => d_build rfl (fun w => by kernel_rfl)) ?_
         intro a hA
         refine any_many (rs := [4, 6]) (by kernel_rfl) (by simp) ⟨?_, ?_, trivial⟩
         · refine op_call hA 4 rfl rfl rfl rfl (enters_func  rfl rfl (fun w => by kernel_rfl)) (rzero_any _) ?_
           rintro _ w255 ⟨f251_1, f251_c1, f251_2, f251_c2, rfl, hs252, hs253, hb254⟩
           replace hS := hS.call hb254
           replace hS := hS.addR hs252.rd
           replace hS := hS.addR hs253.rd
           refine ⟨_, rfl, (hS.partD (.cons _ (.cons_cons _ (.cons_cons _ (.cons_cons _ (.cons_cons _ (.cons_cons _ (.cons_cons _ (.cons_cons _ .slnil)))))))) 4 rfl (.refl _)), ?_⟩
           intro a hA
           refine any_tk (v := .agg #[.bool ((rb R.num)), .slice J66 ((words R.num.natAbs).length) J67, .slice J68 ((words R.den).length) J69, .bool false, .slice f251_1 0 f251_c1, .slice f251_2 1 f251_c2]) hA 5 rfl rfl rfl rfl hP (hS.partD (.cons _ (.cons_cons _ (.cons_cons _ (.cons_cons _ (.cons_cons _ (.cons_cons _ (.cons_cons _ (.cons_cons _ .slnil)))))))) 4 rfl (.refl _)) (fun w1 hS => d_build rfl (fun w => by kernel_rfl)) ?_
           intro a hA
           refine any_one (by kernel_rfl) (op_new (vs := [.bool false, .slice none 0 0, .slice none 0 0, .bool false, .slice none 0 0, .slice none 0 0]) (t := 26) hA hS 6 rfl rfl rfl rfl (fun g => .pointer (some ⟨g, 0, none⟩)) (d_alloc (z := .agg #[.bool false, .slice none 0 0, .slice none 0 0, .bool false, .slice none 0 0, .slice none 0 0]) (by kernel_rfl) rfl) rfl ?_)
           intro g256 w257 hS
           refine ⟨(hS.partD (.cons _ (.cons _ (.cons_cons _ (.cons_cons _ (.cons_cons _ (.cons_cons _ (.cons_cons _ (.cons_cons _ (.cons_cons _ .slnil))))))))) 4 rfl (.refl _)), ?_⟩
           intro a hA
           refine any_one (by kernel_rfl) (op_store (us := [.bool ((rb m1.num)), .slice f79_1 ((words m1.num.natAbs).length) f79_c1, .slice f79_2 ((words m1.den).length) f79_c2, .bool false, .slice f246_1 0 f246_c1, .slice f246_2 1 f246_c2]) hA hS 8 rfl rfl rfl (sets_store rfl rfl rfl (by kernel_rfl) hS 0 rfl rfl rfl) 0 rfl rfl rfl rfl ?_)
           intro w258 hS
           refine ⟨(hS.partD (.cons _ (.cons _ (.cons_cons _ (.cons_cons _ (.cons_cons _ (.cons_cons _ (.cons_cons _ (.cons_cons _ (.cons_cons _ .slnil))))))))) 4 rfl (.refl _)), ?_⟩
           refine any_one (by kernel_rfl) (op_store (us := [.bool ((rb R.num)), .slice J66 ((words R.num.natAbs).length) J67, .slice J68 ((words R.den).length) J69, .bool false, .slice f251_1 0 f251_c1, .slice f251_2 1 f251_c2]) hA hS 9 rfl rfl rfl (sets_store rfl rfl rfl (by kernel_rfl) hS 1 rfl rfl rfl) 1 rfl rfl rfl rfl ?_)
           intro w259 hS
           refine ⟨(hS.partD (.cons _ (.cons _ (.cons_cons _ (.cons_cons _ (.cons_cons _ (.cons_cons _ (.cons_cons _ (.cons_cons _ (.cons_cons _ .slnil))))))))) 4 rfl (.refl _)), ?_⟩
           refine any_end (by kernel_rfl) ?_
           refine hJ120 _ _ ⟨g256, g244, f246_1, f246_c1, f246_2, f246_c2, f251_1, f251_c1, f251_2, f251_c2, hA.keep _ ⟨rfl, rfl, rfl, rfl, rfl, rfl, rfl, rfl, rfl, rfl, rfl, rfl, rfl, rfl, rfl, rfl, rfl, rfl, rfl, rfl, rfl, rfl, rfl, rfl, rfl, rfl, rfl, rfl, rfl, rfl, rfl, rfl, rfl, rfl, rfl, rfl, rfl, rfl, rfl, rfl, rfl, rfl, rfl, rfl, rfl, rfl, rfl, trivial⟩, (St.pickRL hS ⟨⟨0, rfl⟩, ⟨⟨1, rfl⟩, ⟨⟨2, rfl⟩, ⟨⟨3, rfl⟩, ⟨⟨4, rfl⟩, ⟨⟨5, rfl⟩, ⟨⟨6, rfl⟩, ⟨⟨7, rfl⟩, ⟨⟨8, rfl⟩, ⟨⟨9, rfl⟩, ⟨⟨10, rfl⟩, ⟨⟨11, rfl⟩, ⟨⟨12, rfl⟩, ⟨⟨13, rfl⟩, ⟨⟨14, rfl⟩, ⟨⟨15, rfl⟩, ⟨⟨16, rfl⟩, ⟨⟨17, rfl⟩, ⟨⟨18, rfl⟩, ⟨⟨19, rfl⟩, trivial⟩⟩⟩⟩⟩⟩⟩⟩⟩⟩⟩⟩⟩⟩⟩⟩⟩⟩⟩⟩ [1, 0, 2, 3, 4, 5, 6, 7, 8] rfl (by decide)), hs253.nil, hs253.cap, hs252.nil, hs252.cap, hs248.nil, hs248.cap, hs247.nil, hs247.cap⟩
         · refine op_new (vs := [.bool false, .slice none 0 0, .slice none 0 0, .bool false, .slice none 0 0, .slice none 0 0]) (t := 26) hA hS 6 rfl rfl rfl rfl (fun g => .pointer (some ⟨g, 0, none⟩)) (d_alloc (z := .agg #[.bool false, .slice none 0 0, .slice none 0 0, .bool false, .slice none 0 0, .slice none 0 0]) (by kernel_rfl) rfl) rfl ?_
           intro g260 w261 hS
           refine ⟨(hS.partD (.cons _ (.cons _ (.cons_cons _ (.cons_cons _ (.cons_cons _ (.cons_cons _ (.cons_cons _ (.cons_cons _ (.cons_cons _ .slnil))))))))) 2 rfl (.refl _)), ?_⟩
           intro a hA
           refine any_one (by kernel_rfl) (op_call hA 4 rfl rfl rfl rfl (enters_func  rfl rfl (fun w => by kernel_rfl)) (rzero_any _) ?_)
           rintro _ w266 ⟨f262_1, f262_c1, f262_2, f262_c2, rfl, hs263, hs264, hb265⟩
           replace hS := hS.call hb265
           replace hS := hS.addR hs263.rd
           replace hS := hS.addR hs264.rd
           refine ⟨_, rfl, (hS.partD (.cons _ (.cons _ (.cons_cons _ (.cons_cons _ (.cons_cons _ (.cons_cons _ (.cons_cons _ (.cons_cons _ (.cons_cons _ .slnil))))))))) 4 rfl (.refl _)), ?_⟩
           intro a hA
           refine any_tk (v := .agg #[.bool ((rb R.num)), .slice J66 ((words R.num.natAbs).length) J67, .slice J68 ((words R.den).length) J69, .bool false, .slice f262_1 0 f262_c1, .slice f262_2 1 f262_c2]) hA 5 rfl rfl rfl rfl hP (hS.partD (.cons _ (.cons _ (.cons_cons _ (.cons_cons _ (.cons_cons _ (.cons_cons _ (.cons_cons _ (.cons_cons _ (.cons_cons _ .slnil))))))))) 4 rfl (.refl _)) (fun w1 hS => d_build rfl (fun w => by kernel_rfl)) ?_
           intro a hA
           refine any_one (by kernel_rfl) (op_store (us := [.bool ((rb m1.num)), .slice f79_1 ((words m1.num.natAbs).length) f79_c1, .slice f79_2 ((words m1.den).length) f79_c2, .bool false, .slice f246_1 0 f246_c1, .slice f246_2 1 f246_c2]) hA hS 8 rfl rfl rfl (sets_store rfl rfl rfl (by kernel_rfl) hS 0 rfl rfl rfl) 0 rfl rfl rfl rfl ?_)
           intro w267 hS
           refine ⟨(hS.partD (.cons _ (.cons _ (.cons_cons _ (.cons_cons _ (.cons_cons _ (.cons_cons _ (.cons_cons _ (.cons_cons _ (.cons_cons _ .slnil))))))))) 4 rfl (.refl _)), ?_⟩
           refine any_one (by kernel_rfl) (op_store (us := [.bool ((rb R.num)), .slice J66 ((words R.num.natAbs).length) J67, .slice J68 ((words R.den).length) J69, .bool false, .slice f262_1 0 f262_c1, .slice f262_2 1 f262_c2]) hA hS 9 rfl rfl rfl (sets_store rfl rfl rfl (by kernel_rfl) hS 1 rfl rfl rfl) 1 rfl rfl rfl rfl ?_)
           intro w268 hS
           refine ⟨(hS.partD (.cons _ (.cons _ (.cons_cons _ (.cons_cons _ (.cons_cons _ (.cons_cons _ (.cons_cons _ (.cons_cons _ (.cons_cons _ .slnil))))))))) 4 rfl (.refl _)), ?_⟩
           refine any_end (by kernel_rfl) ?_
           refine hJ120 _ _ ⟨g260, g244, f246_1, f246_c1, f246_2, f246_c2, f262_1, f262_c1, f262_2, f262_c2, hA.keep _ ⟨rfl, rfl, rfl, rfl, rfl, rfl, rfl, rfl, rfl, rfl, rfl, rfl, rfl, rfl, rfl, rfl, rfl, rfl, rfl, rfl, rfl, rfl, rfl, rfl, rfl, rfl, rfl, rfl, rfl, rfl, rfl, rfl, rfl, rfl, rfl, rfl, rfl, rfl, rfl, rfl, rfl, rfl, rfl, rfl, rfl, rfl, rfl, trivial⟩, (St.pickRL hS ⟨⟨0, rfl⟩, ⟨⟨1, rfl⟩, ⟨⟨2, rfl⟩, ⟨⟨3, rfl⟩, ⟨⟨4, rfl⟩, ⟨⟨5, rfl⟩, ⟨⟨6, rfl⟩, ⟨⟨7, rfl⟩, ⟨⟨8, rfl⟩, ⟨⟨9, rfl⟩, ⟨⟨10, rfl⟩, ⟨⟨11, rfl⟩, ⟨⟨12, rfl⟩, ⟨⟨13, rfl⟩, ⟨⟨14, rfl⟩, ⟨⟨15, rfl⟩, ⟨⟨16, rfl⟩, ⟨⟨17, rfl⟩, ⟨⟨18, rfl⟩, ⟨⟨19, rfl⟩, trivial⟩⟩⟩⟩⟩⟩⟩⟩⟩⟩⟩⟩⟩⟩⟩⟩⟩⟩⟩⟩ [1, 0, 2, 3, 4, 5, 6, 7, 8] rfl (by decide)), hs264.nil, hs264.cap, hs263.nil, hs263.cap, hs248.nil, hs248.cap, hs247.nil, hs247.cap⟩
       · refine op_new (vs := [.bool false, .slice none 0 0, .slice none 0 0, .bool false, .slice none 0 0, .slice none 0 0]) (t := 26) hA hS 6 rfl rfl rfl rfl (fun g => .pointer (some ⟨g, 0, none⟩)) (d_alloc (z := .agg #[.bool false, .slice none 0 0, .slice none 0 0, .bool false, .slice none 0 0, .slice none 0 0]) (by kernel_rfl) rfl) rfl ?_
         intro g269 w270 hS
         refine ⟨(hS.partD (.cons _ (.cons _ (.cons_cons _ (.cons_cons _ (.cons_cons _ (.cons_cons _ (.cons_cons _ (.cons_cons _ (.cons_cons _ .slnil))))))))) 0 rfl (.refl _)), ?_⟩
         intro a hA
         refine any_one (by kernel_rfl) (op_call hA 1 rfl rfl rfl rfl (enters_func  rfl rfl (fun w => by kernel_rfl)) (rzero_any _) ?_)
         rintro _ w275 ⟨f271_1, f271_c1, f271_2, f271_c2, rfl, hs272, hs273, hb274⟩
         replace hS := hS.call hb274
         replace hS := hS.addR hs272.rd
         replace hS := hS.addR hs273.rd
         refine ⟨_, rfl, (hS.partD (.cons _ (.cons _ (.cons_cons _ (.cons_cons _ (.cons_cons _ (.cons_cons _ (.cons_cons _ (.cons_cons _ (.cons_cons _ .slnil))))))))) 2 rfl (.refl _)), ?_⟩
         intro a hA
         refine any_tk (v := .agg #[.bool ((rb m1.num)), .slice f79_1 ((words m1.num.natAbs).length) f79_c1, .slice f79_2 ((words m1.den).length) f79_c2, .bool false, .slice f271_1 0 f271_c1, .slice f271_2 1 f271_c2]) hA 2 rfl rfl rfl rfl hP (hS.partD (.cons _ (.cons _ (.cons_cons _ (.cons_cons _ (.cons_cons _ (.cons_cons _ (.cons_cons _ (.cons_cons _ (.cons_cons _ .slnil))))))))) 2 rfl (.refl _)) (fun w1 hS => d_build rfl (fun w => by kernel_rfl)) ?_
         intro a hA
         refine any_one (by kernel_rfl) (op_call hA 4 rfl rfl rfl rfl (enters_func  rfl rfl (fun w => by kernel_rfl)) (rzero_any _) ?_)
         rintro _ w280 ⟨f276_1, f276_c1, f276_2, f276_c2, rfl, hs277, hs278, hb279⟩
         replace hS := hS.call hb279
         replace hS := hS.addR hs277.rd
         replace hS := hS.addR hs278.rd
         refine ⟨_, rfl, (hS.partD (.cons _ (.cons _ (.cons_cons _ (.cons_cons _ (.cons_cons _ (.cons_cons _ (.cons_cons _ (.cons_cons _ (.cons_cons _ .slnil))))))))) 4 rfl (.refl _)), ?_⟩
         intro a hA
         refine any_tk (v := .agg #[.bool ((rb R.num)), .slice J66 ((words R.num.natAbs).length) J67, .slice J68 ((words R.den).length) J69, .bool false, .slice f276_1 0 f276_c1, .slice f276_2 1 f276_c2]) hA 5 rfl rfl rfl rfl hP (hS.partD (.cons _ (.cons _ (.cons_cons _ (.cons_cons _ (.cons_cons _ (.cons_cons _ (.cons_cons _ (.cons_cons _ (.cons_cons _ .slnil))))))))) 4 rfl (.refl _)) (fun w1 hS => d_build rfl (fun w => by kernel_rfl)) ?_
         intro a hA
         refine any_one (by kernel_rfl) (op_store (us := [.bool ((rb m1.num)), .slice f79_1 ((words m1.num.natAbs).length) f79_c1, .slice f79_2 ((words m1.den).length) f79_c2, .bool false, .slice f271_1 0 f271_c1, .slice f271_2 1 f271_c2]) hA hS 8 rfl rfl rfl (sets_store rfl rfl rfl (by kernel_rfl) hS 0 rfl rfl rfl) 0 rfl rfl rfl rfl ?_)
         intro w281 hS
         refine ⟨(hS.partD (.cons _ (.cons _ (.cons_cons _ (.cons_cons _ (.cons_cons _ (.cons_cons _ (.cons_cons _ (.cons_cons _ (.cons_cons _ .slnil))))))))) 4 rfl (.refl _)), ?_⟩
         refine any_one (by kernel_rfl) (op_store (us := [.bool ((rb R.num)), .slice J66 ((words R.num.natAbs).length) J67, .slice J68 ((words R.den).length) J69, .bool false, .slice f276_1 0 f276_c1, .slice f276_2 1 f276_c2]) hA hS 9 rfl rfl rfl (sets_store rfl rfl rfl (by kernel_rfl) hS 1 rfl rfl rfl) 1 rfl rfl rfl rfl ?_)
         intro w282 hS
         refine ⟨(hS.partD (.cons _ (.cons _ (.cons_cons _ (.cons_cons _ (.cons_cons _ (.cons_cons _ (.cons_cons _ (.cons_cons _ (.cons_cons _ .slnil))))))))) 4 rfl (.refl _)), ?_⟩
         refine any_end (by kernel_rfl) ?_
         refine hJ120 _ _ ⟨g269, g244, f271_1, f271_c1, f271_2, f271_c2, f276_1, f276_c1, f276_2, f276_c2, hA.keep _ ⟨rfl, rfl, rfl, rfl, rfl, rfl, rfl, rfl, rfl, rfl, rfl, rfl, rfl, rfl, rfl, rfl, rfl, rfl, rfl, rfl, rfl, rfl, rfl, rfl, rfl, rfl, rfl, rfl, rfl, rfl, rfl, rfl, rfl, rfl, rfl, rfl, rfl, rfl, rfl, rfl, rfl, rfl, rfl, rfl, rfl, rfl, rfl, trivial⟩, (St.pickRL hS ⟨⟨0, rfl⟩, ⟨⟨1, rfl⟩, ⟨⟨2, rfl⟩, ⟨⟨3, rfl⟩, ⟨⟨4, rfl⟩, ⟨⟨5, rfl⟩, ⟨⟨6, rfl⟩, ⟨⟨7, rfl⟩, ⟨⟨8, rfl⟩, ⟨⟨9, rfl⟩, ⟨⟨10, rfl⟩, ⟨⟨11, rfl⟩, ⟨⟨12, rfl⟩, ⟨⟨13, rfl⟩, ⟨⟨14, rfl⟩, ⟨⟨15, rfl⟩, ⟨⟨16, rfl⟩, ⟨⟨17, rfl⟩, ⟨⟨18, rfl⟩, ⟨⟨19, rfl⟩, trivial⟩⟩⟩⟩⟩⟩⟩⟩⟩⟩⟩⟩⟩⟩⟩⟩⟩⟩⟩⟩ [1, 0, 2, 3, 4, 5, 6, 7, 8] rfl (by decide)), hs278.nil, hs278.cap, hs277.nil, hs277.cap, hs273.nil, hs273.cap, hs272.nil, hs272.cap⟩
   · refine wp_skip ?_
     refine hK76 _ _ ?_
     refine wp_seq_k (fun K283 hK283 => ?_)
     have hJ318 : ∀ a w1, (∃ (J300g : Nat) (J301g : Nat) (J302 : Option Addr) (J303 : Nat) (J304 : Option Addr) (J305 : Nat) (J306 : Option Addr) (J307 : Nat) (J308 : Option Addr) (J309 : Nat), Sl a 76 [(0, .agg #[.bool (rb u.num), .slice a1 ((words u.num.natAbs).length) ac1, .slice a2 ((words u.den).length) ac2, .bool (rb v.num), .slice a3 ((words v.num.natAbs).length) ac3, .slice a4 ((words v.den).length) ac4]), (1, .agg #[.bool (rb x.num), .slice u1 ((words x.num.natAbs).length) uc1, .slice u2 ((words x.den).length) uc2, .bool (rb y.num), .slice u3 ((words y.num.natAbs).length) uc3, .slice u4 ((words y.den).length) uc4]), (2, .pointer (some ⟨g2, 0, none⟩)), (3, .pointer (some ⟨g4, 0, none⟩)), (4, .pointer (some ⟨g6, 0, none⟩)), (5, .pointer (some ⟨g8, 0, none⟩)), (6, .int .i64 0), (7, .pointer (some ⟨g27, 0, none⟩)), (8, .pointer (some ⟨g43, 0, none⟩)), (9, .pointer (some ⟨J65g, 0, none⟩)), (10, .pointer (some ⟨J300g, 0, none⟩)), (11, .pointer (some ⟨J301g, 0, none⟩)), (12, .agg #[.bool (rb u.num), .slice a1 ((words u.num.natAbs).length) ac1, .slice a2 ((words u.den).length) ac2, .bool (rb v.num), .slice a3 ((words v.num.natAbs).length) ac3, .slice a4 ((words v.den).length) ac4]), (13, .bool true), (14, .bool false), (15, .bool false), (16, .agg #[.bool (rb x.num), .slice u1 ((words x.num.natAbs).length) uc1, .slice u2 ((words x.den).length) uc2, .bool (rb y.num), .slice u3 ((words y.num.natAbs).length) uc3, .slice u4 ((words y.den).length) uc4]), (17, .bool true), (18, .bool false), (19, .bool false), (22, .agg #[.bool (rb u.num), .slice a1 ((words u.num.natAbs).length) ac1, .slice a2 ((words u.den).length) ac2, .bool (rb v.num), .slice a3 ((words v.num.natAbs).length) ac3, .slice a4 ((words v.den).length) ac4]), (23, .bool true), (24, .bool false), (25, .bool false), (26, .agg #[.bool (rb x.num), .slice u1 ((words x.num.natAbs).length) uc1, .slice u2 ((words x.den).length) uc2, .bool (rb y.num), .slice u3 ((words y.num.natAbs).length) uc3, .slice u4 ((words y.den).length) uc4]), (27, .bool true), (28, .bool false), (29, .bool false), (32, .agg #[.bool (rb x.num), .slice u1 ((words x.num.natAbs).length) uc1, .slice u2 ((words x.den).length) uc2, .bool (rb y.num), .slice u3 ((words y.num.natAbs).length) uc3, .slice u4 ((words y.den).length) uc4]), (33, .bool false), (36, .pointer (some ⟨g4, 0, none⟩)), (37, .agg #[.bool (rb x.num), .slice u1 ((words x.num.natAbs).length) uc1, .slice u2 ((words x.den).length) uc2]), (38, .pointer (some ⟨g27, 0, none⟩)), (39, .pointer (some ⟨g2, 0, none⟩)), (40, .agg #[.bool (rb u.num), .slice a1 ((words u.num.natAbs).length) ac1, .slice a2 ((words u.den).length) ac2]), (41, .pointer (some ⟨g27, 2, none⟩)), (42, .slice u2 ((words x.den).length) uc2), (43, .pointer (some ⟨g27, 1, none⟩)), (44, .slice u1 ((words x.num.natAbs).length) uc1), (45, .agg #[.bool false, .slice u2 ((words x.den).length) uc2, .slice u1 ((words x.num.natAbs).length) uc1]), (46, .agg #[.bool ((rb p1.num)), .slice f33_1 ((words p1.num.natAbs).length) f33_c1, .slice f33_2 ((words p1.den).length) f33_c2]), (47, .agg #[.bool ((rb T.num)), .slice f38_1 ((words T.num.natAbs).length) f38_c1, .slice f38_2 ((words T.den).length) f38_c2]), (55, .pointer (some ⟨g4, 0, none⟩)), (56, .pointer (some ⟨g4, 0, none⟩)), (57, .bool (rb x.num))] ∧ St w w1 [(J301g, [.bool ((rb R.num)), .slice J66 ((words R.num.natAbs).length) J67, .slice J68 ((words R.den).length) J69, .bool false, .slice J306 0 J307, .slice J308 1 J309]), (J300g, [.bool ((rb T.num)), .slice f38_1 ((words T.num.natAbs).length) f38_c1, .slice f38_2 ((words T.den).length) f38_c2, .bool false, .slice J302 0 J303, .slice J304 1 J305]), (J65g, [.bool ((rb R.num)), .slice J66 ((words R.num.natAbs).length) J67, .slice J68 ((words R.den).length) J69]), (g43, [.bool ((rb T.num)), .slice f38_1 ((words T.num.natAbs).length) f38_c1, .slice f38_2 ((words T.den).length) f38_c2]), (g27, [.bool false, .slice u1 ((words x.num.natAbs).length) uc1, .slice u2 ((words x.den).length) uc2]), (g8, [.bool false, .slice none 0 0, .slice none 0 0, .bool false, .slice none 0 0, .slice none 0 0]), (g6, [.bool false, .slice none 0 0, .slice none 0 0, .bool false, .slice none 0 0, .slice none 0 0]), (g4, [.bool (rb x.num), .slice u1 ((words x.num.natAbs).length) uc1, .slice u2 ((words x.den).length) uc2, .bool (rb y.num), .slice u3 ((words y.num.natAbs).length) uc3, .slice u4 ((words y.den).length) uc4]), (g2, [.bool (rb u.num), .slice a1 ((words u.num.natAbs).length) ac1, .slice a2 ((words u.den).length) ac2, .bool (rb v.num), .slice a3 ((words v.num.natAbs).length) ac3, .slice a4 ((words v.den).length) ac4])] [(J308, [1]), (J306, []), (J304, [1]), (J302, []), (J68, words R.den), (J66, words R.num.natAbs), (f38_2, words T.den), (f38_1, words T.num.natAbs), (f33_2, words p1.den), (f33_1, words p1.num.natAbs), (u4, words y.den), (u3, words y.num.natAbs), (u2, words x.den), (u1, words x.num.natAbs), (a4, words v.den), (a3, words v.num.natAbs), (a2, words u.den), (a1, words u.num.natAbs)] [] ∧ (J308 = none → J309 = 0) ∧ ([1] : List Nat).length ≤ J309 ∧ (J306 = none → J307 = 0) ∧ ([] : List Nat).length ≤ J307 ∧ (J304 = none → J305 = 0) ∧ ([1] : List Nat).length ≤ J305 ∧ (J302 = none → J303 = 0) ∧ ([] : List Nat).length ≤ J303) → K283 a w1 := by
       clear hA hS
       rintro a w319 ⟨J300g, J301g, J302, J303, J304, J305, J306, J307, J308, J309, hA, hS, hn310, hc311, hn312, hc313, hn314, hc315, hn316, hc317⟩
       refine hK283 _ _ ?_
       refine wp_seq_k (fun K320 hK320 => ?_)
       refine wp_seq_k (fun K321 hK321 => ?_)
       refine wp_region_lit ?_
       refine seq_do hA rfl rfl rfl (d_loadS hS SmF_isS_26 rfl 1 rfl (cs := [.bool ((rb T.num)), .slice f38_1 ((words T.num.natAbs).length) f38_c1, .slice f38_2 ((words T.den).length) f38_c2, .bool false, .slice J302 0 J303, .slice J304 1 J305]) rfl rfl) ?_
       intro a hA
       rcases Bool.eq_false_or_eq_true (decide (¬ (fitR T ∧ fitR 0))) with hb322 | hb322
       · have hb322' := of_decide_eq_true hb322
         refine seq_call hA rfl rfl rfl (enters_func  rfl rfl (fun w => by kernel_rfl)) (rlarge0_any (show Nm _ (Q6.real T) f38_1 f38_c1 f38_2 f38_c2 J302 J303 J304 J305 from ⟨⟨(hS.rd 7 rfl), hs39.nil, hs39.cap⟩, ⟨(hS.rd 6 rfl), hs40.nil, hs40.cap⟩, ⟨(hS.rd 3 rfl), hn316, hc317⟩, ⟨(hS.rd 2 rfl), hn314, hc315⟩⟩) (LR_T.mono (by decide)) hb322) ?_
         rintro _ w324 ⟨rfl, hb323⟩
         replace hS := hS.call hb323
         refine ⟨_, rfl, ?_⟩
         intro a hA
         refine seq_do hA rfl rfl rfl (d_move rfl) ?_
         intro a hA
         refine seq_skip hA rfl rfl rfl ?_
         intro a hA
         refine seq_skip hA rfl rfl rfl ?_
         intro a hA
         refine seq_do (v := .bool true) hA rfl rfl rfl (d_pick rfl rfl rfl rfl) ?_
         intro a hA
         refine seq_end ?_
         refine hK321 _ _ ?_
         refine wp_cond_true (hA.ev rfl) ?_
         refine wp_seq_k (fun K325 hK325 => ?_)
         refine wp_region_lit ?_
         refine seq_do (v := .agg #[.bool false, .slice none 0 0, .slice none 0 0, .bool false, .slice none 0 0, .slice none 0 0]) hA rfl rfl rfl (d_build rfl (fun w => by kernel_rfl)) ?_
         intro a hA
         refine seq_do (v := .agg #[.bool false, .slice none 0 0, .slice none 0 0, .bool false, .slice none 0 0, .slice none 0 0]) hA rfl rfl rfl (d_build rfl (fun w => by kernel_rfl)) ?_
         intro a hA
         refine seq_store (us := [.bool false, .slice none 0 0, .slice none 0 0, .bool false, .slice none 0 0, .slice none 0 0]) hA hS rfl rfl (sets_store rfl rfl rfl (by kernel_rfl) hS 6 rfl rfl rfl) 6 rfl rfl rfl rfl ?_
         intro w326 hS
         refine seq_store (us := [.bool false, .slice none 0 0, .slice none 0 0, .bool false, .slice none 0 0, .slice none 0 0]) hA hS rfl rfl (sets_store rfl rfl rfl (by kernel_rfl) hS 5 rfl rfl rfl) 5 rfl rfl rfl rfl ?_
         intro w327 hS
         refine seq_do hA rfl rfl rfl (d_assign rfl) ?_
         intro a hA
         refine seq_end ?_
         refine hK325 _ _ ?_
         refine wp_ret ?_
         refine hret _ _ ?_
         refine ends (v := .tuple #[.agg #[.bool false, .slice none 0 0, .slice none 0 0, .bool false, .slice none 0 0, .slice none 0 0], .agg #[.bool false, .slice none 0 0, .slice none 0 0, .bool false, .slice none 0 0, .slice none 0 0], .int .i64 4]) hA rfl (.cons (res_cell hS SmF_isS_26 rfl 6 rfl (cs := [.bool false, .slice none 0 0, .slice none 0 0, .bool false, .slice none 0 0, .slice none 0 0]) rfl rfl) (.cons (res_cell hS SmF_isS_26 rfl 5 rfl (cs := [.bool false, .slice none 0 0, .slice none 0 0, .bool false, .slice none 0 0, .slice none 0 0]) rfl rfl) (.cons (res_tmp rfl) .nil))) rfl ?_
         rw [show qz = T from by rw [← hq, hc78]; rfl]
         rw [dm_big1 hb322]
         exact ⟨none, 0, none, 0, none, 0, none, 0, none, 0, none, 0, none, 0, none, 0, rfl, ⟨(Sc.none _), (Sc.none _), (Sc.none _), (Sc.none _)⟩, ⟨(Sc.none _), (Sc.none _), (Sc.none _), (Sc.none _)⟩, hS.bel⟩
       · have hb322' := of_decide_eq_false hb322
         refine seq_call hA rfl rfl rfl (enters_func  rfl rfl (fun w => by kernel_rfl)) (rlarge0_any (show Nm _ (Q6.real T) f38_1 f38_c1 f38_2 f38_c2 J302 J303 J304 J305 from ⟨⟨(hS.rd 7 rfl), hs39.nil, hs39.cap⟩, ⟨(hS.rd 6 rfl), hs40.nil, hs40.cap⟩, ⟨(hS.rd 3 rfl), hn316, hc317⟩, ⟨(hS.rd 2 rfl), hn314, hc315⟩⟩) (LR_T.mono (by decide)) hb322) ?_
         rintro _ w329 ⟨rfl, hb328⟩
         replace hS := hS.call hb328
         refine ⟨_, rfl, ?_⟩
         intro a hA
         refine seq_do hA rfl rfl rfl (d_move rfl) ?_
         intro a hA
         refine seq_do hA rfl rfl rfl (d_loadS hS SmF_isS_26 rfl 0 rfl (cs := [.bool ((rb R.num)), .slice J66 ((words R.num.natAbs).length) J67, .slice J68 ((words R.den).length) J69, .bool false, .slice J306 0 J307, .slice J308 1 J309]) rfl rfl) ?_
         intro a hA
         rcases Bool.eq_false_or_eq_true (decide (¬ (fitR R ∧ fitR 0))) with hb330 | hb330
         · have hb330' := of_decide_eq_true hb330
           refine seq_call hA rfl rfl rfl (enters_func  rfl rfl (fun w => by kernel_rfl)) (rlarge0_any (show Nm _ (Q6.real R) J66 J67 J68 J69 J306 J307 J308 J309 from ⟨⟨(hS.rd 5 rfl), hn72, hc73⟩, ⟨(hS.rd 4 rfl), hn70, hc71⟩, ⟨(hS.rd 1 rfl), hn312, hc313⟩, ⟨(hS.rd 0 rfl), hn310, hc311⟩⟩) (LR_R.mono (by decide)) hb330) ?_
           rintro _ w332 ⟨rfl, hb331⟩
           replace hS := hS.call hb331
           refine ⟨_, rfl, ?_⟩
           intro a hA
           refine seq_do (v := .bool true) hA rfl rfl rfl (d_pick rfl rfl rfl rfl) ?_
           intro a hA
           refine seq_end ?_
           refine hK321 _ _ ?_
           refine wp_cond_true (hA.ev rfl) ?_
           refine wp_seq_k (fun K333 hK333 => ?_)
           refine wp_region_lit ?_
           refine seq_do (v := .agg #[.bool false, .slice none 0 0, .slice none 0 0, .bool false, .slice none 0 0, .slice none 0 0]) hA rfl rfl rfl (d_build rfl (fun w => by kernel_rfl)) ?_
           intro a hA
           refine seq_do (v := .agg #[.bool false, .slice none 0 0, .slice none 0 0, .bool false, .slice none 0 0, .slice none 0 0]) hA rfl rfl rfl (d_build rfl (fun w => by kernel_rfl)) ?_
           intro a hA
           refine seq_store (us := [.bool false, .slice none 0 0, .slice none 0 0, .bool false, .slice none 0 0, .slice none 0 0]) hA hS rfl rfl (sets_store rfl rfl rfl (by kernel_rfl) hS 6 rfl rfl rfl) 6 rfl rfl rfl rfl ?_
           intro w334 hS
           refine seq_store (us := [.bool false, .slice none 0 0, .slice none 0 0, .bool false, .slice none 0 0, .slice none 0 0]) hA hS rfl rfl (sets_store rfl rfl rfl (by kernel_rfl) hS 5 rfl rfl rfl) 5 rfl rfl rfl rfl ?_
           intro w335 hS
           refine seq_do hA rfl rfl rfl (d_assign rfl) ?_
           intro a hA
           refine seq_end ?_
           refine hK333 _ _ ?_
           refine wp_ret ?_
           refine hret _ _ ?_
           refine ends (v := .tuple #[.agg #[.bool false, .slice none 0 0, .slice none 0 0, .bool false, .slice none 0 0, .slice none 0 0], .agg #[.bool false, .slice none 0 0, .slice none 0 0, .bool false, .slice none 0 0, .slice none 0 0], .int .i64 4]) hA rfl (.cons (res_cell hS SmF_isS_26 rfl 6 rfl (cs := [.bool false, .slice none 0 0, .slice none 0 0, .bool false, .slice none 0 0, .slice none 0 0]) rfl rfl) (.cons (res_cell hS SmF_isS_26 rfl 5 rfl (cs := [.bool false, .slice none 0 0, .slice none 0 0, .bool false, .slice none 0 0, .slice none 0 0]) rfl rfl) (.cons (res_tmp rfl) .nil))) rfl ?_
           rw [show qz = T from by rw [← hq, hc78]; rfl]
           rw [dm_big2 hb322 hb330]
           exact ⟨none, 0, none, 0, none, 0, none, 0, none, 0, none, 0, none, 0, none, 0, rfl, ⟨(Sc.none _), (Sc.none _), (Sc.none _), (Sc.none _)⟩, ⟨(Sc.none _), (Sc.none _), (Sc.none _), (Sc.none _)⟩, hS.bel⟩
         · have hb330' := of_decide_eq_false hb330
           refine seq_call hA rfl rfl rfl (enters_func  rfl rfl (fun w => by kernel_rfl)) (rlarge0_any (show Nm _ (Q6.real R) J66 J67 J68 J69 J306 J307 J308 J309 from ⟨⟨(hS.rd 5 rfl), hn72, hc73⟩, ⟨(hS.rd 4 rfl), hn70, hc71⟩, ⟨(hS.rd 1 rfl), hn312, hc313⟩, ⟨(hS.rd 0 rfl), hn310, hc311⟩⟩) (LR_R.mono (by decide)) hb330) ?_
           rintro _ w337 ⟨rfl, hb336⟩
           replace hS := hS.call hb336
           refine ⟨_, rfl, ?_⟩
           intro a hA
           refine seq_do (v := .bool false) hA rfl rfl rfl (d_pick rfl rfl rfl rfl) ?_
           intro a hA
           refine seq_end ?_
           refine hK321 _ _ ?_
           refine wp_cond_false (hA.ev rfl) ?_
           refine wp_skip ?_
           refine hK320 _ _ ?_
           refine wp_seq_k (fun K338 hK338 => ?_)
           refine wp_draw (S := fun w1 => St w w1 [(J301g, [.bool ((rb R.num)), .slice J66 ((words R.num.natAbs).length) J67, .slice J68 ((words R.den).length) J69, .bool false, .slice J306 0 J307, .slice J308 1 J309]), (J300g, [.bool ((rb T.num)), .slice f38_1 ((words T.num.natAbs).length) f38_c1, .slice f38_2 ((words T.den).length) f38_c2, .bool false, .slice J302 0 J303, .slice J304 1 J305]), (J65g, [.bool ((rb R.num)), .slice J66 ((words R.num.natAbs).length) J67, .slice J68 ((words R.den).length) J69]), (g43, [.bool ((rb T.num)), .slice f38_1 ((words T.num.natAbs).length) f38_c1, .slice f38_2 ((words T.den).length) f38_c2]), (g27, [.bool false, .slice u1 ((words x.num.natAbs).length) uc1, .slice u2 ((words x.den).length) uc2]), (g4, [.bool (rb x.num), .slice u1 ((words x.num.natAbs).length) uc1, .slice u2 ((words x.den).length) uc2, .bool (rb y.num), .slice u3 ((words y.num.natAbs).length) uc3, .slice u4 ((words y.den).length) uc4]), (g2, [.bool (rb u.num), .slice a1 ((words u.num.natAbs).length) ac1, .slice a2 ((words u.den).length) ac2, .bool (rb v.num), .slice a3 ((words v.num.natAbs).length) ac3, .slice a4 ((words v.den).length) ac4])] [(J308, [1]), (J306, []), (J304, [1]), (J302, []), (J68, words R.den), (J66, words R.num.natAbs), (f38_2, words T.den), (f38_1, words T.num.natAbs), (f33_2, words p1.den), (f33_1, words p1.num.natAbs), (u4, words y.den), (u3, words y.num.natAbs), (u2, words x.den), (u1, words x.num.natAbs), (a4, words v.den), (a3, words v.num.natAbs), (a2, words u.den), (a1, words u.num.natAbs)] []) (by kernel_rfl) ?_
           replace hS := hS.drew
           refine any_tk hA 0 rfl rfl rfl rfl hP (hS.partD (.cons_cons _ (.cons_cons _ (.cons_cons _ (.cons_cons _ (.cons_cons _ (.cons _ (.cons _ (.cons_cons _ (.cons_cons _ .slnil))))))))) 0 rfl (.refl _)) (fun w1 hS => d_loadS hS SmF_isS_26 rfl 1 rfl (cs := [.bool ((rb T.num)), .slice f38_1 ((words T.num.natAbs).length) f38_c1, .slice f38_2 ((words T.den).length) f38_c2, .bool false, .slice J302 0 J303, .slice J304 1 J305]) rfl rfl) ?_
           intro a hA
           refine any_tk hA 1 rfl rfl rfl rfl hP (hS.partD (.cons_cons _ (.cons_cons _ (.cons_cons _ (.cons_cons _ (.cons_cons _ (.cons _ (.cons _ (.cons_cons _ (.cons_cons _ .slnil))))))))) 0 rfl (.refl _)) (fun w1 hS => d_loadS hS SmF_isS_26 rfl 0 rfl (cs := [.bool ((rb R.num)), .slice J66 ((words R.num.natAbs).length) J67, .slice J68 ((words R.den).length) J69, .bool false, .slice J306 0 J307, .slice J308 1 J309]) rfl rfl) ?_
           intro a hA
           refine any_one (by kernel_rfl) (op_store (us := [.bool ((rb T.num)), .slice f38_1 ((words T.num.natAbs).length) f38_c1, .slice f38_2 ((words T.den).length) f38_c2, .bool false, .slice J302 0 J303, .slice J304 1 J305]) hA hS 2 rfl rfl rfl (sets_store rfl rfl rfl (by kernel_rfl) hS 6 rfl rfl rfl) 6 rfl rfl rfl rfl ?_)
           intro w339 hS
           refine ⟨(hS.partD (.cons_cons _ (.cons_cons _ (.cons_cons _ (.cons_cons _ (.cons_cons _ (.cons _ (.cons _ (.cons_cons _ (.cons_cons _ .slnil))))))))) 0 rfl (.refl _)), ?_⟩
           refine any_one (by kernel_rfl) (op_store (us := [.bool ((rb R.num)), .slice J66 ((words R.num.natAbs).length) J67, .slice J68 ((words R.den).length) J69, .bool false, .slice J306 0 J307, .slice J308 1 J309]) hA hS 3 rfl rfl rfl (sets_store rfl rfl rfl (by kernel_rfl) hS 5 rfl rfl rfl) 5 rfl rfl rfl rfl ?_)
           intro w340 hS
           refine ⟨(hS.partD (.cons_cons _ (.cons_cons _ (.cons_cons _ (.cons_cons _ (.cons_cons _ (.cons _ (.cons _ (.cons_cons _ (.cons_cons _ .slnil))))))))) 0 rfl (.refl _)), ?_⟩
           refine any_tk hA 4 rfl rfl rfl rfl hP (hS.partD (.cons_cons _ (.cons_cons _ (.cons_cons _ (.cons_cons _ (.cons_cons _ (.cons _ (.cons _ (.cons_cons _ (.cons_cons _ .slnil))))))))) 0 rfl (.refl _)) (fun w1 hS => d_assign rfl) ?_
           intro a hA
           refine any_end (by kernel_rfl) ?_
           refine hK338 _ _ ?_
           refine wp_ret ?_
           refine hret _ _ ?_
           refine ends (v := .tuple #[.agg #[.bool ((rb T.num)), .slice f38_1 ((words T.num.natAbs).length) f38_c1, .slice f38_2 ((words T.den).length) f38_c2, .bool false, .slice J302 0 J303, .slice J304 1 J305], .agg #[.bool ((rb R.num)), .slice J66 ((words R.num.natAbs).length) J67, .slice J68 ((words R.den).length) J69, .bool false, .slice J306 0 J307, .slice J308 1 J309], .int .i64 0]) hA rfl (.cons (res_cell hS SmF_isS_26 rfl 6 rfl (cs := [.bool ((rb T.num)), .slice f38_1 ((words T.num.natAbs).length) f38_c1, .slice f38_2 ((words T.den).length) f38_c2, .bool false, .slice J302 0 J303, .slice J304 1 J305]) rfl rfl) (.cons (res_cell hS SmF_isS_26 rfl 5 rfl (cs := [.bool ((rb R.num)), .slice J66 ((words R.num.natAbs).length) J67, .slice J68 ((words R.den).length) J69, .bool false, .slice J306 0 J307, .slice J308 1 J309]) rfl rfl) (.cons (res_tmp rfl) .nil))) rfl ?_
           rw [show qz = T from by rw [← hq, hc78]; rfl]
           rw [dm_fit hb322 hb330]
           exact ⟨f38_1, f38_c1, f38_2, f38_c2, J302, J303, J304, J305, J66, J67, J68, J69, J306, J307, J308, J309, rfl, ⟨⟨(hS.rd 7 rfl), hs39.nil, hs39.cap⟩, ⟨(hS.rd 6 rfl), hs40.nil, hs40.cap⟩, ⟨(hS.rd 3 rfl), hn316, hc317⟩, ⟨(hS.rd 2 rfl), hn314, hc315⟩⟩, ⟨⟨(hS.rd 5 rfl), hn72, hc73⟩, ⟨(hS.rd 4 rfl), hn70, hc71⟩, ⟨(hS.rd 1 rfl), hn312, hc313⟩, ⟨(hS.rd 0 rfl), hn310, hc311⟩⟩, hS.bel⟩
     refine wp_draw (S := fun w1 => St w w1 [(J65g, [.bool ((rb R.num)), .slice J66 ((words R.num.natAbs).length) J67, .slice J68 ((words R.den).length) J69]), (g43, [.bool ((rb T.num)), .slice f38_1 ((words T.num.natAbs).length) f38_c1, .slice f38_2 ((words T.den).length) f38_c2]), (g27, [.bool false, .slice u1 ((words x.num.natAbs).length) uc1, .slice u2 ((words x.den).length) uc2]), (g8, [.bool false, .slice none 0 0, .slice none 0 0, .bool false, .slice none 0 0, .slice none 0 0]), (g6, [.bool false, .slice none 0 0, .slice none 0 0, .bool false, .slice none 0 0, .slice none 0 0]), (g4, [.bool (rb x.num), .slice u1 ((words x.num.natAbs).length) uc1, .slice u2 ((words x.den).length) uc2, .bool (rb y.num), .slice u3 ((words y.num.natAbs).length) uc3, .slice u4 ((words y.den).length) uc4]), (g2, [.bool (rb u.num), .slice a1 ((words u.num.natAbs).length) ac1, .slice a2 ((words u.den).length) ac2, .bool (rb v.num), .slice a3 ((words v.num.natAbs).length) ac3, .slice a4 ((words v.den).length) ac4])] [(J68, words R.den), (J66, words R.num.natAbs), (f38_2, words T.den), (f38_1, words T.num.natAbs), (f33_2, words p1.den), (f33_1, words p1.num.natAbs), (u4, words y.den), (u3, words y.num.natAbs), (u2, words x.den), (u1, words x.num.natAbs), (a4, words v.den), (a3, words v.num.natAbs), (a2, words u.den), (a1, words u.num.natAbs)] []) (by kernel_rfl) ?_
     replace hS := hS.drew
     refine any_tk hA 0 rfl rfl rfl rfl hP hS (fun w1 hS => d_loadS hS SmF_isS_24 rfl 1 rfl (cs := [.bool ((rb T.num)), .slice f38_1 ((words T.num.natAbs).length) f38_c1, .slice f38_2 ((words T.den).length) f38_c2]) rfl rfl) ?_
     intro a hA
     refine any_tk hA 3 rfl rfl rfl rfl hP hS (fun w1 hS => d_loadS hS SmF_isS_24 rfl 0 rfl (cs := [.bool ((rb R.num)), .slice J66 ((words R.num.natAbs).length) J67, .slice J68 ((words R.den).length) J69]) rfl rfl) ?_
     intro a hA
     refine any_many (rs := [1, 6, 7]) (by kernel_rfl) (by simp) ⟨?_, ?_, ?_, trivial⟩
     · refine op_call hA 1 rfl rfl rfl rfl (enters_func  rfl rfl (fun w => by kernel_rfl)) (rzero_any _) ?_
       rintro _ w345 ⟨f341_1, f341_c1, f341_2, f341_c2, rfl, hs342, hs343, hb344⟩
       replace hS := hS.call hb344
       replace hS := hS.addR hs342.rd
       replace hS := hS.addR hs343.rd
       refine ⟨_, rfl, (hS.partD (.refl _) 2 rfl (.refl _)), ?_⟩
       intro a hA
       refine any_tk (v := .agg #[.bool ((rb T.num)), .slice f38_1 ((words T.num.natAbs).length) f38_c1, .slice f38_2 ((words T.den).length) f38_c2, .bool false, .slice f341_1 0 f341_c1, .slice f341_2 1 f341_c2]) hA 2 rfl rfl rfl rfl hP (hS.partD (.refl _) 2 rfl (.refl _)) (fun w1 hS => d_build rfl (fun w => by kernel_rfl)) ?_
       intro a hA
       refine any_many (rs := [4, 6, 7]) (by kernel_rfl) (by simp) ⟨?_, ?_, ?_, trivial⟩
       · refine op_call hA 4 rfl rfl rfl rfl (enters_func  rfl rfl (fun w => by kernel_rfl)) (rzero_any _) ?_
         rintro _ w350 ⟨f346_1, f346_c1, f346_2, f346_c2, rfl, hs347, hs348, hb349⟩
         replace hS := hS.call hb349
         replace hS := hS.addR hs347.rd
         replace hS := hS.addR hs348.rd
         refine ⟨_, rfl, (hS.partD (.refl _) 4 rfl (.refl _)), ?_⟩
         intro a hA
         refine any_tk (v := .agg #[.bool ((rb R.num)), .slice J66 ((words R.num.natAbs).length) J67, .slice J68 ((words R.den).length) J69, .bool false, .slice f346_1 0 f346_c1, .slice f346_2 1 f346_c2]) hA 5 rfl rfl rfl rfl hP (hS.partD (.refl _) 4 rfl (.refl _)) (fun w1 hS => d_build rfl (fun w => by kernel_rfl)) ?_
         intro a hA
         refine any_many (rs := [6, 7]) (by kernel_rfl) (by simp) ⟨?_, ?_, trivial⟩
         · refine op_new (vs := [.bool false, .slice none 0 0, .slice none 0 0, .bool false, .slice none 0 0, .slice none 0 0]) (t := 26) hA hS 6 rfl rfl rfl rfl (fun g => .pointer (some ⟨g, 0, none⟩)) (d_alloc (z := .agg #[.bool false, .slice none 0 0, .slice none 0 0, .bool false, .slice none 0 0, .slice none 0 0]) (by kernel_rfl) rfl) rfl ?_
           intro g351 w352 hS
           refine ⟨(hS.partD (.cons _ (.cons_cons _ (.cons_cons _ (.cons_cons _ (.cons_cons _ (.cons_cons _ (.cons_cons _ (.cons_cons _ .slnil)))))))) 4 rfl (.refl _)), ?_⟩
           intro a hA
           refine any_one (by kernel_rfl) (op_new (vs := [.bool false, .slice none 0 0, .slice none 0 0, .bool false, .slice none 0 0, .slice none 0 0]) (t := 26) hA hS 7 rfl rfl rfl rfl (fun g => .pointer (some ⟨g, 0, none⟩)) (d_alloc (z := .agg #[.bool false, .slice none 0 0, .slice none 0 0, .bool false, .slice none 0 0, .slice none 0 0]) (by kernel_rfl) rfl) rfl ?_)
           intro g353 w354 hS
           refine ⟨(hS.partD (.cons _ (.cons _ (.cons_cons _ (.cons_cons _ (.cons_cons _ (.cons_cons _ (.cons_cons _ (.cons_cons _ (.cons_cons _ .slnil))))))))) 4 rfl (.refl _)), ?_⟩
           intro a hA
           refine any_one (by kernel_rfl) (op_store (us := [.bool ((rb T.num)), .slice f38_1 ((words T.num.natAbs).length) f38_c1, .slice f38_2 ((words T.den).length) f38_c2, .bool false, .slice f341_1 0 f341_c1, .slice f341_2 1 f341_c2]) hA hS 8 rfl rfl rfl (sets_store rfl rfl rfl (by kernel_rfl) hS 1 rfl rfl rfl) 1 rfl rfl rfl rfl ?_)
           intro w355 hS
           refine ⟨(hS.partD (.cons _ (.cons _ (.cons_cons _ (.cons_cons _ (.cons_cons _ (.cons_cons _ (.cons_cons _ (.cons_cons _ (.cons_cons _ .slnil))))))))) 4 rfl (.refl _)), ?_⟩
           refine any_one (by kernel_rfl) (op_store (us := [.bool ((rb R.num)), .slice J66 ((words R.num.natAbs).length) J67, .slice J68 ((words R.den).length) J69, .bool false, .slice f346_1 0 f346_c1, .slice f346_2 1 f346_c2]) hA hS 9 rfl rfl rfl (sets_store rfl rfl rfl (by kernel_rfl) hS 0 rfl rfl rfl) 0 rfl rfl rfl rfl ?_)
           intro w356 hS
           refine ⟨(hS.partD (.cons _ (.cons _ (.cons_cons _ (.cons_cons _ (.cons_cons _ (.cons_cons _ (.cons_cons _ (.cons_cons _ (.cons_cons _ .slnil))))))))) 4 rfl (.refl _)), ?_⟩
           refine any_end (by kernel_rfl) ?_
           refine hJ318 _ _ ⟨g351, g353, f341_1, f341_c1, f341_2, f341_c2, f346_1, f346_c1, f346_2, f346_c2, hA.keep _ ⟨rfl, rfl, rfl, rfl, rfl, rfl, rfl, rfl, rfl, rfl, rfl, rfl, rfl, rfl, rfl, rfl, rfl, rfl, rfl, rfl, rfl, rfl, rfl, rfl, rfl, rfl, rfl, rfl, rfl, rfl, rfl, rfl, rfl, rfl, rfl, rfl, rfl, rfl, rfl, rfl, rfl, rfl, rfl, rfl, rfl, trivial⟩, (St.pickRL hS ⟨⟨0, rfl⟩, ⟨⟨1, rfl⟩, ⟨⟨2, rfl⟩, ⟨⟨3, rfl⟩, ⟨⟨4, rfl⟩, ⟨⟨5, rfl⟩, ⟨⟨6, rfl⟩, ⟨⟨7, rfl⟩, ⟨⟨8, rfl⟩, ⟨⟨9, rfl⟩, ⟨⟨10, rfl⟩, ⟨⟨11, rfl⟩, ⟨⟨12, rfl⟩, ⟨⟨13, rfl⟩, ⟨⟨14, rfl⟩, ⟨⟨15, rfl⟩, ⟨⟨16, rfl⟩, ⟨⟨17, rfl⟩, trivial⟩⟩⟩⟩⟩⟩⟩⟩⟩⟩⟩⟩⟩⟩⟩⟩⟩⟩ [0, 1, 2, 3, 4, 5, 6, 7, 8] rfl (by decide)), hs348.nil, hs348.cap, hs347.nil, hs347.cap, hs343.nil, hs343.cap, hs342.nil, hs342.cap⟩
         · refine op_new (vs := [.bool false, .slice none 0 0, .slice none 0 0, .bool false, .slice none 0 0, .slice none 0 0]) (t := 26) hA hS 7 rfl rfl rfl rfl (fun g => .pointer (some ⟨g, 0, none⟩)) (d_alloc (z := .agg #[.bool false, .slice none 0 0, .slice none 0 0, .bool false, .slice none 0 0, .slice none 0 0]) (by kernel_rfl) rfl) rfl ?_
           intro g357 w358 hS
           refine ⟨(hS.partD (.cons _ (.cons_cons _ (.cons_cons _ (.cons_cons _ (.cons_cons _ (.cons_cons _ (.cons_cons _ (.cons_cons _ .slnil)))))))) 4 rfl (.refl _)), ?_⟩
           intro a hA
           refine any_one (by kernel_rfl) (op_new (vs := [.bool false, .slice none 0 0, .slice none 0 0, .bool false, .slice none 0 0, .slice none 0 0]) (t := 26) hA hS 6 rfl rfl rfl rfl (fun g => .pointer (some ⟨g, 0, none⟩)) (d_alloc (z := .agg #[.bool false, .slice none 0 0, .slice none 0 0, .bool false, .slice none 0 0, .slice none 0 0]) (by kernel_rfl) rfl) rfl ?_)
           intro g359 w360 hS
           refine ⟨(hS.partD (.cons _ (.cons _ (.cons_cons _ (.cons_cons _ (.cons_cons _ (.cons_cons _ (.cons_cons _ (.cons_cons _ (.cons_cons _ .slnil))))))))) 4 rfl (.refl _)), ?_⟩
           intro a hA
           refine any_one (by kernel_rfl) (op_store (us := [.bool ((rb T.num)), .slice f38_1 ((words T.num.natAbs).length) f38_c1, .slice f38_2 ((words T.den).length) f38_c2, .bool false, .slice f341_1 0 f341_c1, .slice f341_2 1 f341_c2]) hA hS 8 rfl rfl rfl (sets_store rfl rfl rfl (by kernel_rfl) hS 0 rfl rfl rfl) 0 rfl rfl rfl rfl ?_)
           intro w361 hS
           refine ⟨(hS.partD (.cons _ (.cons _ (.cons_cons _ (.cons_cons _ (.cons_cons _ (.cons_cons _ (.cons_cons _ (.cons_cons _ (.cons_cons _ .slnil))))))))) 4 rfl (.refl _)), ?_⟩
           refine any_one (by kernel_rfl) (op_store (us := [.bool ((rb R.num)), .slice J66 ((words R.num.natAbs).length) J67, .slice J68 ((words R.den).length) J69, .bool false, .slice f346_1 0 f346_c1, .slice f346_2 1 f346_c2]) hA hS 9 rfl rfl rfl (sets_store rfl rfl rfl (by kernel_rfl) hS 1 rfl rfl rfl) 1 rfl rfl rfl rfl ?_)
           intro w362 hS
           refine ⟨(hS.partD (.cons _ (.cons _ (.cons_cons _ (.cons_cons _ (.cons_cons _ (.cons_cons _ (.cons_cons _ (.cons_cons _ (.cons_cons _ .slnil))))))))) 4 rfl (.refl _)), ?_⟩
           refine any_end (by kernel_rfl) ?_
           refine hJ318 _ _ ⟨g359, g357, f341_1, f341_c1, f341_2, f341_c2, f346_1, f346_c1, f346_2, f346_c2, hA.keep _ ⟨rfl, rfl, rfl, rfl, rfl, rfl, rfl, rfl, rfl, rfl, rfl, rfl, rfl, rfl, rfl, rfl, rfl, rfl, rfl, rfl, rfl, rfl, rfl, rfl, rfl, rfl, rfl, rfl, rfl, rfl, rfl, rfl, rfl, rfl, rfl, rfl, rfl, rfl, rfl, rfl, rfl, rfl, rfl, rfl, rfl, trivial⟩, (St.pickRL hS ⟨⟨0, rfl⟩, ⟨⟨1, rfl⟩, ⟨⟨2, rfl⟩, ⟨⟨3, rfl⟩, ⟨⟨4, rfl⟩, ⟨⟨5, rfl⟩, ⟨⟨6, rfl⟩, ⟨⟨7, rfl⟩, ⟨⟨8, rfl⟩, ⟨⟨9, rfl⟩, ⟨⟨10, rfl⟩, ⟨⟨11, rfl⟩, ⟨⟨12, rfl⟩, ⟨⟨13, rfl⟩, ⟨⟨14, rfl⟩, ⟨⟨15, rfl⟩, ⟨⟨16, rfl⟩, ⟨⟨17, rfl⟩, trivial⟩⟩⟩⟩⟩⟩⟩⟩⟩⟩⟩⟩⟩⟩⟩⟩⟩⟩ [1, 0, 2, 3, 4, 5, 6, 7, 8] rfl (by decide)), hs348.nil, hs348.cap, hs347.nil, hs347.cap, hs343.nil, hs343.cap, hs342.nil, hs342.cap⟩
       · refine op_new (vs := [.bool false, .slice none 0 0, .slice none 0 0, .bool false, .slice none 0 0, .slice none 0 0]) (t := 26) hA hS 6 rfl rfl rfl rfl (fun g => .pointer (some ⟨g, 0, none⟩)) (d_alloc (z := .agg #[.bool false, .slice none 0 0, .slice none 0 0, .bool false, .slice none 0 0, .slice none 0 0]) (by kernel_rfl) rfl) rfl ?_
         intro g363 w364 hS
         refine ⟨(hS.partD (.cons _ (.cons_cons _ (.cons_cons _ (.cons_cons _ (.cons_cons _ (.cons_cons _ (.cons_cons _ (.cons_cons _ .slnil)))))))) 2 rfl (.refl _)), ?_⟩
         intro a hA
         refine any_many (rs := [4, 7]) (by kernel_rfl) (by simp) ⟨?_, ?_, trivial⟩
         · refine op_call hA 4 rfl rfl rfl rfl (enters_func  rfl rfl (fun w => by kernel_rfl)) (rzero_any _) ?_
           rintro _ w369 ⟨f365_1, f365_c1, f365_2, f365_c2, rfl, hs366, hs367, hb368⟩
           replace hS := hS.call hb368
           replace hS := hS.addR hs366.rd
           replace hS := hS.addR hs367.rd
           refine ⟨_, rfl, (hS.partD (.cons _ (.cons_cons _ (.cons_cons _ (.cons_cons _ (.cons_cons _ (.cons_cons _ (.cons_cons _ (.cons_cons _ .slnil)))))))) 4 rfl (.refl _)), ?_⟩
           intro a hA
           refine any_tk (v := .agg #[.bool ((rb R.num)), .slice J66 ((words R.num.natAbs).length) J67, .slice J68 ((words R.den).length) J69, .bool false, .slice f365_1 0 f365_c1, .slice f365_2 1 f365_c2]) hA 5 rfl rfl rfl rfl hP (hS.partD (.cons _ (.cons_cons _ (.cons_cons _ (.cons_cons _ (.cons_cons _ (.cons_cons _ (.cons_cons _ (.cons_cons _ .slnil)))))))) 4 rfl (.refl _)) (fun w1 hS => d_build rfl (fun w => by kernel_rfl)) ?_
           intro a hA
           refine any_one (by kernel_rfl) (op_new (vs := [.bool false, .slice none 0 0, .slice none 0 0, .bool false, .slice none 0 0, .slice none 0 0]) (t := 26) hA hS 7 rfl rfl rfl rfl (fun g => .pointer (some ⟨g, 0, none⟩)) (d_alloc (z := .agg #[.bool false, .slice none 0 0, .slice none 0 0, .bool false, .slice none 0 0, .slice none 0 0]) (by kernel_rfl) rfl) rfl ?_)
           intro g370 w371 hS
           refine ⟨(hS.partD (.cons _ (.cons _ (.cons_cons _ (.cons_cons _ (.cons_cons _ (.cons_cons _ (.cons_cons _ (.cons_cons _ (.cons_cons _ .slnil))))))))) 4 rfl (.refl _)), ?_⟩
           intro a hA
           refine any_one (by kernel_rfl) (op_store (us := [.bool ((rb T.num)), .slice f38_1 ((words T.num.natAbs).length) f38_c1, .slice f38_2 ((words T.den).length) f38_c2, .bool false, .slice f341_1 0 f341_c1, .slice f341_2 1 f341_c2]) hA hS 8 rfl rfl rfl (sets_store rfl rfl rfl (by kernel_rfl) hS 1 rfl rfl rfl) 1 rfl rfl rfl rfl ?_)
           intro w372 hS
           refine ⟨(hS.partD (.cons _ (.cons _ (.cons_cons _ (.cons_cons _ (.cons_cons _ (.cons_cons _ (.cons_cons _ (.cons_cons _ (.cons_cons _ .slnil))))))))) 4 rfl (.refl _)), ?_⟩
           refine any_one (by kernel_rfl) (op_store (us := [.bool ((rb R.num)), .slice J66 ((words R.num.natAbs).length) J67, .slice J68 ((words R.den).length) J69, .bool false, .slice f365_1 0 f365_c1, .slice f365_2 1 f365_c2]) hA hS 9 rfl rfl rfl (sets_store rfl rfl rfl (by kernel_rfl) hS 0 rfl rfl rfl) 0 rfl rfl rfl rfl ?_)
           intro w373 hS
           refine ⟨(hS.partD (.cons _ (.cons _ (.cons_cons _ (.cons_cons _ (.cons_cons _ (.cons_cons _ (.cons_cons _ (.cons_cons _ (.cons_cons _ .slnil))))))))) 4 rfl (.refl _)), ?_⟩
           refine any_end (by kernel_rfl) ?_
           refine hJ318 _ _ ⟨g363, g370, f341_1, f341_c1, f341_2, f341_c2, f365_1, f365_c1, f365_2, f365_c2, hA.keep _ ⟨rfl, rfl, rfl, rfl, rfl, rfl, rfl, rfl, rfl, rfl, rfl, rfl, rfl, rfl, rfl, rfl, rfl, rfl, rfl, rfl, rfl, rfl, rfl, rfl, rfl, rfl, rfl, rfl, rfl, rfl, rfl, rfl, rfl, rfl, rfl, rfl, rfl, rfl, rfl, rfl, rfl, rfl, rfl, rfl, rfl, trivial⟩, (St.pickRL hS ⟨⟨0, rfl⟩, ⟨⟨1, rfl⟩, ⟨⟨2, rfl⟩, ⟨⟨3, rfl⟩, ⟨⟨4, rfl⟩, ⟨⟨5, rfl⟩, ⟨⟨6, rfl⟩, ⟨⟨7, rfl⟩, ⟨⟨8, rfl⟩, ⟨⟨9, rfl⟩, ⟨⟨10, rfl⟩, ⟨⟨11, rfl⟩, ⟨⟨12, rfl⟩, ⟨⟨13, rfl⟩, ⟨⟨14, rfl⟩, ⟨⟨15, rfl⟩, ⟨⟨16, rfl⟩, ⟨⟨17, rfl⟩, trivial⟩⟩⟩⟩⟩⟩⟩⟩⟩⟩⟩⟩⟩⟩⟩⟩⟩⟩ [0, 1, 2, 3, 4, 5, 6, 7, 8] rfl (by decide)), hs367.nil, hs367.cap, hs366.nil, hs366.cap, hs343.nil, hs343.cap, hs342.nil, hs342.cap⟩
         · refine op_new (vs := [.bool false, .slice none 0 0, .slice none 0 0, .bool false, .slice none 0 0, .slice none 0 0]) (t := 26) hA hS 7 rfl rfl rfl rfl (fun g => .pointer (some ⟨g, 0, none⟩)) (d_alloc (z := .agg #[.bool false, .slice none 0 0, .slice none 0 0, .bool false, .slice none 0 0, .slice none 0 0]) (by kernel_rfl) rfl) rfl ?_
           intro g374 w375 hS
           refine ⟨(hS.partD (.cons _ (.cons _ (.cons_cons _ (.cons_cons _ (.cons_cons _ (.cons_cons _ (.cons_cons _ (.cons_cons _ (.cons_cons _ .slnil))))))))) 2 rfl (.refl _)), ?_⟩
           intro a hA
           refine any_one (by kernel_rfl) (op_call hA 4 rfl rfl rfl rfl (enters_func  rfl rfl (fun w => by kernel_rfl)) (rzero_any _) ?_)
           rintro _ w380 ⟨f376_1, f376_c1, f376_2, f376_c2, rfl, hs377, hs378, hb379⟩
           replace hS := hS.call hb379
           replace hS := hS.addR hs377.rd
           replace hS := hS.addR hs378.rd
           refine ⟨_, rfl, (hS.partD (.cons _ (.cons _ (.cons_cons _ (.cons_cons _ (.cons_cons _ (.cons_cons _ (.cons_cons _ (.cons_cons _ (.cons_cons _ .slnil))))))))) 4 rfl (.refl _)), ?_⟩
           intro a hA
           refine any_tk (v := .agg #[.bool ((rb R.num)), .slice J66 ((words R.num.natAbs).length) J67, .slice J68 ((words R.den).length) J69, .bool false, .slice f376_1 0 f376_c1, .slice f376_2 1 f376_c2]) hA 5 rfl rfl rfl rfl hP (hS.partD (.cons _ (.cons _ (.cons_cons _ (.cons_cons _ (.cons_cons _ (.cons_cons _ (.cons_cons _ (.cons_cons _ (.cons_cons _ .slnil))))))))) 4 rfl (.refl _)) (fun w1 hS => d_build rfl (fun w => by kernel_rfl)) ?_
           intro a hA
           refine any_one (by kernel_rfl) (op_store (us := [.bool ((rb T.num)), .slice f38_1 ((words T.num.natAbs).length) f38_c1, .slice f38_2 ((words T.den).length) f38_c2, .bool false, .slice f341_1 0 f341_c1, .slice f341_2 1 f341_c2]) hA hS 8 rfl rfl rfl (sets_store rfl rfl rfl (by kernel_rfl) hS 1 rfl rfl rfl) 1 rfl rfl rfl rfl ?_)
           intro w381 hS
           refine ⟨(hS.partD (.cons _ (.cons _ (.cons_cons _ (.cons_cons _ (.cons_cons _ (.cons_cons _ (.cons_cons _ (.cons_cons _ (.cons_cons _ .slnil))))))))) 4 rfl (.refl _)), ?_⟩
           refine any_one (by kernel_rfl) (op_store (us := [.bool ((rb R.num)), .slice J66 ((words R.num.natAbs).length) J67, .slice J68 ((words R.den).length) J69, .bool false, .slice f376_1 0 f376_c1, .slice f376_2 1 f376_c2]) hA hS 9 rfl rfl rfl (sets_store rfl rfl rfl (by kernel_rfl) hS 0 rfl rfl rfl) 0 rfl rfl rfl rfl ?_)
           intro w382 hS
           refine ⟨(hS.partD (.cons _ (.cons _ (.cons_cons _ (.cons_cons _ (.cons_cons _ (.cons_cons _ (.cons_cons _ (.cons_cons _ (.cons_cons _ .slnil))))))))) 4 rfl (.refl _)), ?_⟩
           refine any_end (by kernel_rfl) ?_
           refine hJ318 _ _ ⟨g363, g374, f341_1, f341_c1, f341_2, f341_c2, f376_1, f376_c1, f376_2, f376_c2, hA.keep _ ⟨rfl, rfl, rfl, rfl, rfl, rfl, rfl, rfl, rfl, rfl, rfl, rfl, rfl, rfl, rfl, rfl, rfl, rfl, rfl, rfl, rfl, rfl, rfl, rfl, rfl, rfl, rfl, rfl, rfl, rfl, rfl, rfl, rfl, rfl, rfl, rfl, rfl, rfl, rfl, rfl, rfl, rfl, rfl, rfl, rfl, trivial⟩, (St.pickRL hS ⟨⟨0, rfl⟩, ⟨⟨1, rfl⟩, ⟨⟨2, rfl⟩, ⟨⟨3, rfl⟩, ⟨⟨4, rfl⟩, ⟨⟨5, rfl⟩, ⟨⟨6, rfl⟩, ⟨⟨7, rfl⟩, ⟨⟨8, rfl⟩, ⟨⟨9, rfl⟩, ⟨⟨10, rfl⟩, ⟨⟨11, rfl⟩, ⟨⟨12, rfl⟩, ⟨⟨13, rfl⟩, ⟨⟨14, rfl⟩, ⟨⟨15, rfl⟩, ⟨⟨16, rfl⟩, ⟨⟨17, rfl⟩, trivial⟩⟩⟩⟩⟩⟩⟩⟩⟩⟩⟩⟩⟩⟩⟩⟩⟩⟩ [0, 1, 2, 3, 4, 5, 6, 7, 8] rfl (by decide)), hs378.nil, hs378.cap, hs377.nil, hs377.cap, hs343.nil, hs343.cap, hs342.nil, hs342.cap⟩
       · refine op_new (vs := [.bool false, .slice none 0 0, .slice none 0 0, .bool false, .slice none 0 0, .slice none 0 0]) (t := 26) hA hS 7 rfl rfl rfl rfl (fun g => .pointer (some ⟨g, 0, none⟩)) (d_alloc (z := .agg #[.bool false, .slice none 0 0, .slice none 0 0, .bool false, .slice none 0 0, .slice none 0 0]) (by kernel_rfl) rfl) rfl ?_
         intro g383 w384 hS
         refine ⟨(hS.partD (.cons _ (.cons_cons _ (.cons_cons _ (.cons_cons _ (.cons_cons _ (.cons_cons _ (.cons_cons _ (.cons_cons _ .slnil)))))))) 2 rfl (.refl _)), ?_⟩
         intro a hA
         refine any_many (rs := [4, 6]) (by kernel_rfl) (by simp) ⟨?_, ?_, trivial⟩
         · refine op_call hA 4 rfl rfl rfl rfl (enters_func  rfl rfl (fun w => by kernel_rfl)) (rzero_any _) ?_
           rintro _ w389 ⟨f385_1, f385_c1, f385_2, f385_c2, rfl, hs386, hs387, hb388⟩
           replace hS := hS.call hb388
           replace hS := hS.addR hs386.rd
           replace hS := hS.addR hs387.rd
           refine ⟨_, rfl, (hS.partD (.cons _ (.cons_cons _ (.cons_cons _ (.cons_cons _ (.cons_cons _ (.cons_cons _ (.cons_cons _ (.cons_cons _ .slnil)))))))) 4 rfl (.refl _)), ?_⟩
           intro a hA
           refine any_tk (v := .agg #[.bool ((rb R.num)), .slice J66 ((words R.num.natAbs).length) J67, .slice J68 ((words R.den).length) J69, .bool false, .slice f385_1 0 f385_c1, .slice f385_2 1 f385_c2]) hA 5 rfl rfl rfl rfl hP (hS.partD (.cons _ (.cons_cons _ (.cons_cons _ (.cons_cons _ (.cons_cons _ (.cons_cons _ (.cons_cons _ (.cons_cons _ .slnil)))))))) 4 rfl (.refl _)) (fun w1 hS => d_build rfl (fun w => by kernel_rfl)) ?_
           intro a hA
           refine any_one (by kernel_rfl) (op_new (vs := [.bool false, .slice none 0 0, .slice none 0 0, .bool false, .slice none 0 0, .slice none 0 0]) (t := 26) hA hS 6 rfl rfl rfl rfl (fun g => .pointer (some ⟨g, 0, none⟩)) (d_alloc (z := .agg #[.bool false, .slice none 0 0, .slice none 0 0, .bool false, .slice none 0 0, .slice none 0 0]) (by kernel_rfl) rfl) rfl ?_)
           intro g390 w391 hS
           refine ⟨(hS.partD (.cons _ (.cons _ (.cons_cons _ (.cons_cons _ (.cons_cons _ (.cons_cons _ (.cons_cons _ (.cons_cons _ (.cons_cons _ .slnil))))))))) 4 rfl (.refl _)), ?_⟩
           intro a hA
           refine any_one (by kernel_rfl) (op_store (us := [.bool ((rb T.num)), .slice f38_1 ((words T.num.natAbs).length) f38_c1, .slice f38_2 ((words T.den).length) f38_c2, .bool false, .slice f341_1 0 f341_c1, .slice f341_2 1 f341_c2]) hA hS 8 rfl rfl rfl (sets_store rfl rfl rfl (by kernel_rfl) hS 0 rfl rfl rfl) 0 rfl rfl rfl rfl ?_)
           intro w392 hS
           refine ⟨(hS.partD (.cons _ (.cons _ (.cons_cons _ (.cons_cons _ (.cons_cons _ (.cons_cons _ (.cons_cons _ (.cons_cons _ (.cons_cons _ .slnil))))))))) 4 rfl (.refl _)), ?_⟩
           refine any_one (by kernel_rfl) (op_store (us := [.bool ((rb R.num)), .slice J66 ((words R.num.natAbs).length) J67, .slice J68 ((words R.den).length) J69, .bool false, .slice f385_1 0 f385_c1, .slice f385_2 1 f385_c2]) hA hS 9 rfl rfl rfl (sets_store rfl rfl rfl (by kernel_rfl) hS 1 rfl rfl rfl) 1 rfl rfl rfl rfl ?_)
           intro w393 hS
           refine ⟨(hS.partD (.cons _ (.cons _ (.cons_cons _ (.cons_cons _ (.cons_cons _ (.cons_cons _ (.cons_cons _ (.cons_cons _ (.cons_cons _ .slnil))))))))) 4 rfl (.refl _)), ?_⟩
           refine any_end (by kernel_rfl) ?_
           refine hJ318 _ _ ⟨g390, g383, f341_1, f341_c1, f341_2, f341_c2, f385_1, f385_c1, f385_2, f385_c2, hA.keep _ ⟨rfl, rfl, rfl, rfl, rfl, rfl, rfl, rfl, rfl, rfl, rfl, rfl, rfl, rfl, rfl, rfl, rfl, rfl, rfl, rfl, rfl, rfl, rfl, rfl, rfl, rfl, rfl, rfl, rfl, rfl, rfl, rfl, rfl, rfl, rfl, rfl, rfl, rfl, rfl, rfl, rfl, rfl, rfl, rfl, rfl, trivial⟩, (St.pickRL hS ⟨⟨0, rfl⟩, ⟨⟨1, rfl⟩, ⟨⟨2, rfl⟩, ⟨⟨3, rfl⟩, ⟨⟨4, rfl⟩, ⟨⟨5, rfl⟩, ⟨⟨6, rfl⟩, ⟨⟨7, rfl⟩, ⟨⟨8, rfl⟩, ⟨⟨9, rfl⟩, ⟨⟨10, rfl⟩, ⟨⟨11, rfl⟩, ⟨⟨12, rfl⟩, ⟨⟨13, rfl⟩, ⟨⟨14, rfl⟩, ⟨⟨15, rfl⟩, ⟨⟨16, rfl⟩, ⟨⟨17, rfl⟩, trivial⟩⟩⟩⟩⟩⟩⟩⟩⟩⟩⟩⟩⟩⟩⟩⟩⟩⟩ [1, 0, 2, 3, 4, 5, 6, 7, 8] rfl (by decide)), hs387.nil, hs387.cap, hs386.nil, hs386.cap, hs343.nil, hs343.cap, hs342.nil, hs342.cap⟩
         · refine op_new (vs := [.bool false, .slice none 0 0, .slice none 0 0, .bool false, .slice none 0 0, .slice none 0 0]) (t := 26) hA hS 6 rfl rfl rfl rfl (fun g => .pointer (some ⟨g, 0, none⟩)) (d_alloc (z := .agg #[.bool false, .slice none 0 0, .slice none 0 0, .bool false, .slice none 0 0, .slice none 0 0]) (by kernel_rfl) rfl) rfl ?_
           intro g394 w395 hS
           refine ⟨(hS.partD (.cons _ (.cons _ (.cons_cons _ (.cons_cons _ (.cons_cons _ (.cons_cons _ (.cons_cons _ (.cons_cons _ (.cons_cons _ .slnil))))))))) 2 rfl (.refl _)), ?_⟩
           intro a hA
           refine any_one (by kernel_rfl) (op_call hA 4 rfl rfl rfl rfl (enters_func  rfl rfl (fun w => by kernel_rfl)) (rzero_any _) ?_)
           rintro _ w400 ⟨f396_1, f396_c1, f396_2, f396_c2, rfl, hs397, hs398, hb399⟩
           replace hS := hS.call hb399
           replace hS := hS.addR hs397.rd
           replace hS := hS.addR hs398.rd
           refine ⟨_, rfl, (hS.partD (.cons _ (.cons _ (.cons_cons _ (.cons_cons _ (.cons_cons _ (.cons_cons _ (.cons_cons _ (.cons_cons _ (.cons_cons _ .slnil))))))))) 4 rfl (.refl _)), ?_⟩
           intro a hA
           refine any_tk (v := .agg #[.bool ((rb R.num)), .slice J66 ((words R.num.natAbs).length) J67, .slice J68 ((words R.den).length) J69, .bool false, .slice f396_1 0 f396_c1, .slice f396_2 1 f396_c2]) hA 5 rfl rfl rfl rfl hP (hS.partD (.cons _ (.cons _ (.cons_cons _ (.cons_cons _ (.cons_cons _ (.cons_cons _ (.cons_cons _ (.cons_cons _ (.cons_cons _ .slnil))))))))) 4 rfl (.refl _)) (fun w1 hS => d_build rfl (fun w => by kernel_rfl)) ?_
           intro a hA
           refine any_one (by kernel_rfl) (op_store (us := [.bool ((rb T.num)), .slice f38_1 ((words T.num.natAbs).length) f38_c1, .slice f38_2 ((words T.den).length) f38_c2, .bool false, .slice f341_1 0 f341_c1, .slice f341_2 1 f341_c2]) hA hS 8 rfl rfl rfl (sets_store rfl rfl rfl (by kernel_rfl) hS 0 rfl rfl rfl) 0 rfl rfl rfl rfl ?_)
           intro w401 hS
           refine ⟨(hS.partD (.cons _ (.cons _ (.cons_cons _ (.cons_cons _ (.cons_cons _ (.cons_cons _ (.cons_cons _ (.cons_cons _ (.cons_cons _ .slnil))))))))) 4 rfl (.refl _)), ?_⟩
           refine any_one (by kernel_rfl) (op_store (us := [.bool ((rb R.num)), .slice J66 ((words R.num.natAbs).length) J67, .slice J68 ((words R.den).length) J69, .bool false, .slice f396_1 0 f396_c1, .slice f396_2 1 f396_c2]) hA hS 9 rfl rfl rfl (sets_store rfl rfl rfl (by kernel_rfl) hS 1 rfl rfl rfl) 1 rfl rfl rfl rfl ?_)
           intro w402 hS
           refine ⟨(hS.partD (.cons _ (.cons _ (.cons_cons _ (.cons_cons _ (.cons_cons _ (.cons_cons _ (.cons_cons _ (.cons_cons _ (.cons_cons _ .slnil))))))))) 4 rfl (.refl _)), ?_⟩
           refine any_end (by kernel_rfl) ?_
           refine hJ318 _ _ ⟨g394, g383, f341_1, f341_c1, f341_2, f341_c2, f396_1, f396_c1, f396_2, f396_c2, hA.keep _ ⟨rfl, rfl, rfl, rfl, rfl, rfl, rfl, rfl, rfl, rfl, rfl, rfl, rfl, rfl, rfl, rfl, rfl, rfl, rfl, rfl, rfl, rfl, rfl, rfl, rfl, rfl, rfl, rfl, rfl, rfl, rfl, rfl, rfl, rfl, rfl, rfl, rfl, rfl, rfl, rfl, rfl, rfl, rfl, rfl, rfl, trivial⟩, (St.pickRL hS ⟨⟨0, rfl⟩, ⟨⟨1, rfl⟩, ⟨⟨2, rfl⟩, ⟨⟨3, rfl⟩, ⟨⟨4, rfl⟩, ⟨⟨5, rfl⟩, ⟨⟨6, rfl⟩, ⟨⟨7, rfl⟩, ⟨⟨8, rfl⟩, ⟨⟨9, rfl⟩, ⟨⟨10, rfl⟩, ⟨⟨11, rfl⟩, ⟨⟨12, rfl⟩, ⟨⟨13, rfl⟩, ⟨⟨14, rfl⟩, ⟨⟨15, rfl⟩, ⟨⟨16, rfl⟩, ⟨⟨17, rfl⟩, trivial⟩⟩⟩⟩⟩⟩⟩⟩⟩⟩⟩⟩⟩⟩⟩⟩⟩⟩ [1, 0, 2, 3, 4, 5, 6, 7, 8] rfl (by decide)), hs398.nil, hs398.cap, hs397.nil, hs397.cap, hs343.nil, hs343.cap, hs342.nil, hs342.cap⟩
     · refine op_new (vs := [.bool false, .slice none 0 0, .slice none 0 0, .bool false, .slice none 0 0, .slice none 0 0]) (t := 26) hA hS 6 rfl rfl rfl rfl (fun g => .pointer (some ⟨g, 0, none⟩)) (d_alloc (z := .agg #[.bool false, .slice none 0 0, .slice none 0 0, .bool false, .slice none 0 0, .slice none 0 0]) (by kernel_rfl) rfl) rfl ?_
       intro g403 w404 hS
       refine ⟨(hS.partD (.cons _ (.cons_cons _ (.cons_cons _ (.cons_cons _ (.cons_cons _ (.cons_cons _ (.cons_cons _ (.cons_cons _ .slnil)))))))) 0 rfl (.refl _)), ?_⟩
       intro a hA
       refine any_many (rs := [1, 7]) (by kernel_rfl) (by simp) ⟨?_, ?_, trivial⟩
       · refine op_call hA 1 rfl rfl rfl rfl (enters_func  rfl rfl (fun w => by kernel_rfl)) (rzero_any _) ?_
         rintro _ w409 ⟨f405_1, f405_c1, f405_2, f405_c2, rfl, hs406, hs407, hb408⟩
         replace hS := hS.call hb408
         replace hS := hS.addR hs406.rd
         replace hS := hS.addR hs407.rd
         refine ⟨_, rfl, (hS.partD (.cons _ (.cons_cons _ (.cons_cons _ (.cons_cons _ (.cons_cons _ (.cons_cons _ (.cons_cons _ (.cons_cons _ .slnil)))))))) 2 rfl (.refl _)), ?_⟩
         intro a hA
         refine any_tk (v := .agg #[.bool ((rb T.num)), .slice f38_1 ((words T.num.natAbs).length) f38_c1, .slice f38_2 ((words T.den).length) f38_c2, .bool false, .slice f405_1 0 f405_c1, .slice f405_2 1 f405_c2]) hA 2 rfl rfl rfl rfl hP (hS.partD (.cons _ (.cons_cons _ (.cons_cons _ (.cons_cons _ (.cons_cons _ (.cons_cons _ (.cons_cons _ (.cons_cons _ .slnil)))))))) 2 rfl (.refl _)) (fun w1 hS => d_build rfl (fun w => by kernel_rfl)) ?_
         intro a hA
         refine any_many (rs := [4, 7]) (by kernel_rfl) (by simp) ⟨?_, ?_, trivial⟩
         · refine op_call hA 4 rfl rfl rfl rfl (enters_func  rfl rfl (fun w => by kernel_rfl)) (rzero_any _) ?_
           rintro _ w414 ⟨f410_1, f410_c1, f410_2, f410_c2, rfl, hs411, hs412, hb413⟩
           replace hS := hS.call hb413
           replace hS := hS.addR hs411.rd
           replace hS := hS.addR hs412.rd
           refine ⟨_, rfl, (hS.partD (.cons _ (.cons_cons _ (.cons_cons _ (.cons_cons _ (.cons_cons _ (.cons_cons _ (.cons_cons _ (.cons_cons _ .slnil)))))))) 4 rfl (.refl _)), ?_⟩
           intro a hA
           refine any_tk (v := .agg #[.bool ((rb R.num)), .slice J66 ((words R.num.natAbs).length) J67, .slice J68 ((words R.den).length) J69, .bool false, .slice f410_1 0 f410_c1, .slice f410_2 1 f410_c2]) hA 5 rfl rfl rfl rfl hP (hS.partD (.cons _ (.cons_cons _ (.cons_cons _ (.cons_cons _ (.cons_cons _ (.cons_cons _ (.cons_cons _ (.cons_cons _ .slnil)))))))) 4 rfl (.refl _)) (fun w1 hS => d_build rfl (fun w => by kernel_rfl)) ?_
           intro a hA
           refine any_one (by kernel_rfl) (op_new (vs := [.bool false, .slice none 0 0, .slice none 0 0, .bool false, .slice none 0 0, .slice none 0 0]) (t := 26) hA hS 7 rfl rfl rfl rfl (fun g => .pointer (some ⟨g, 0, none⟩)) (d_alloc (z := .agg #[.bool false, .slice none 0 0, .slice none 0 0, .bool false, .slice none 0 0, .slice none 0 0]) (by kernel_rfl) rfl) rfl ?_)
           intro g415 w416 hS
           refine ⟨(hS.partD (.cons _ (.cons _ (.cons_cons _ (.cons_cons _ (.cons_cons _ (.cons_cons _ (.cons_cons _ (.cons_cons _ (.cons_cons _ .slnil))))))))) 4 rfl (.refl _)), ?_⟩
           intro a hA
           refine any_one (by kernel_rfl) (op_store (us := [.bool ((rb T.num)), .slice f38_1 ((words T.num.natAbs).length) f38_c1, .slice f38_2 ((words T.den).length) f38_c2, .bool false, .slice f405_1 0 f405_c1, .slice f405_2 1 f405_c2]) hA hS 8 rfl rfl rfl (sets_store rfl rfl rfl (by kernel_rfl) hS 1 rfl rfl rfl) 1 rfl rfl rfl rfl ?_)
           intro w417 hS
           refine ⟨(hS.partD (.cons _ (.cons _ (.cons_cons _ (.cons_cons _ (.cons_cons _ (.cons_cons _ (.cons_cons _ (.cons_cons _ (.cons_cons _ .slnil))))))))) 4 rfl (.refl _)), ?_⟩
           refine any_one (by kernel_rfl) (op_store (us := [.bool ((rb R.num)), .slice J66 ((words R.num.natAbs).length) J67, .slice J68 ((words R.den).length) J69, .bool false, .slice f410_1 0 f410_c1, .slice f410_2 1 f410_c2]) hA hS 9 rfl rfl rfl (sets_store rfl rfl rfl (by kernel_rfl) hS 0 rfl rfl rfl) 0 rfl rfl rfl rfl ?_)
           intro w418 hS
           refine ⟨(hS.partD (.cons _ (.cons _ (.cons_cons _ (.cons_cons _ (.cons_cons _ (.cons_cons _ (.cons_cons _ (.cons_cons _ (.cons_cons _ .slnil))))))))) 4 rfl (.refl _)), ?_⟩
           refine any_end (by kernel_rfl) ?_
           refine hJ318 _ _ ⟨g403, g415, f405_1, f405_c1, f405_2, f405_c2, f410_1, f410_c1, f410_2, f410_c2, hA.keep _ ⟨rfl, rfl, rfl, rfl, rfl, rfl, rfl, rfl, rfl, rfl, rfl, rfl, rfl, rfl, rfl, rfl, rfl, rfl, rfl, rfl, rfl, rfl, rfl, rfl, rfl, rfl, rfl, rfl, rfl, rfl, rfl, rfl, rfl, rfl, rfl, rfl, rfl, rfl, rfl, rfl, rfl, rfl, rfl, rfl, rfl, trivial⟩, (St.pickRL hS ⟨⟨0, rfl⟩, ⟨⟨1, rfl⟩, ⟨⟨2, rfl⟩, ⟨⟨3, rfl⟩, ⟨⟨4, rfl⟩, ⟨⟨5, rfl⟩, ⟨⟨6, rfl⟩, ⟨⟨7, rfl⟩, ⟨⟨8, rfl⟩, ⟨⟨9, rfl⟩, ⟨⟨10, rfl⟩, ⟨⟨11, rfl⟩, ⟨⟨12, rfl⟩, ⟨⟨13, rfl⟩, ⟨⟨14, rfl⟩, ⟨⟨15, rfl⟩, ⟨⟨16, rfl⟩, ⟨⟨17, rfl⟩, trivial⟩⟩⟩⟩⟩⟩⟩⟩⟩⟩⟩⟩⟩⟩⟩⟩⟩⟩ [0, 1, 2, 3, 4, 5, 6, 7, 8] rfl (by decide)), hs412.nil, hs412.cap, hs411.nil, hs411.cap, hs407.nil, hs407.cap, hs406.nil, hs406.cap⟩
         · refine op_new (vs := [.bool false, .slice none 0 0, .slice none 0 0, .bool false, .slice none 0 0, .slice none 0 0]) (t := 26) hA hS 7 rfl rfl rfl rfl (fun g => .pointer (some ⟨g, 0, none⟩)) (d_alloc (z := .agg #[.bool false, .slice none 0 0, .slice none 0 0, .bool false, .slice none 0 0, .slice none 0 0]) (by kernel_rfl) rfl) rfl ?_
           intro g419 w420 hS
           refine ⟨(hS.partD (.cons _ (.cons _ (.cons_cons _ (.cons_cons _ (.cons_cons _ (.cons_cons _ (.cons_cons _ (.cons_cons _ (.cons_cons _ .slnil))))))))) 2 rfl (.refl _)), ?_⟩
           intro a hA
           refine any_one (by kernel_rfl) (op_call hA 4 rfl rfl rfl rfl (enters_func  rfl rfl (fun w => by kernel_rfl)) (rzero_any _) ?_)
           rintro _ w425 ⟨f421_1, f421_c1, f421_2, f421_c2, rfl, hs422, hs423, hb424⟩
           replace hS := hS.call hb424
           replace hS := hS.addR hs422.rd
           replace hS := hS.addR hs423.rd
           refine ⟨_, rfl, (hS.partD (.cons _ (.cons _ (.cons_cons _ (.cons_cons _ (.cons_cons _ (.cons_cons _ (.cons_cons _ (.cons_cons _ (.cons_cons _ .slnil))))))))) 4 rfl (.refl _)), ?_⟩
           intro a hA
           refine any_tk (v := .agg #[.bool ((rb R.num)), .slice J66 ((words R.num.natAbs).length) J67, .slice J68 ((words R.den).length) J69, .bool false, .slice f421_1 0 f421_c1, .slice f421_2 1 f421_c2]) hA 5 rfl rfl rfl rfl hP (hS.partD (.cons _ (.cons _ (.cons_cons _ (.cons_cons _ (.cons_cons _ (.cons_cons _ (.cons_cons _ (.cons_cons _ (.cons_cons _ .slnil))))))))) 4 rfl (.refl _)) (fun w1 hS => d_build rfl (fun w => by kernel_rfl)) ?_
           intro a hA
           refine any_one (by kernel_rfl) (op_store (us := [.bool ((rb T.num)), .slice f38_1 ((words T.num.natAbs).length) f38_c1, .slice f38_2 ((words T.den).length) f38_c2, .bool false, .slice f405_1 0 f405_c1, .slice f405_2 1 f405_c2]) hA hS 8 rfl rfl rfl (sets_store rfl rfl rfl (by kernel_rfl) hS 1 rfl rfl rfl) 1 rfl rfl rfl rfl ?_)
           intro w426 hS
           refine ⟨(hS.partD (.cons _ (.cons _ (.cons_cons _ (.cons_cons _ (.cons_cons _ (.cons_cons _ (.cons_cons _ (.cons_cons _ (.cons_cons _ .slnil))))))))) 4 rfl (.refl _)), ?_⟩
           refine any_one (by kernel_rfl) (op_store (us := [.bool ((rb R.num)), .slice J66 ((words R.num.natAbs).length) J67, .slice J68 ((words R.den).length) J69, .bool false, .slice f421_1 0 f421_c1, .slice f421_2 1 f421_c2]) hA hS 9 rfl rfl rfl (sets_store rfl rfl rfl (by kernel_rfl) hS 0 rfl rfl rfl) 0 rfl rfl rfl rfl ?_)
           intro w427 hS
           refine ⟨(hS.partD (.cons _ (.cons _ (.cons_cons _ (.cons_cons _ (.cons_cons _ (.cons_cons _ (.cons_cons _ (.cons_cons _ (.cons_cons _ .slnil))))))))) 4 rfl (.refl _)), ?_⟩
           refine any_end (by kernel_rfl) ?_
           refine hJ318 _ _ ⟨g403, g419, f405_1, f405_c1, f405_2, f405_c2, f421_1, f421_c1, f421_2, f421_c2, hA.keep _ ⟨rfl, rfl, rfl, rfl, rfl, rfl, rfl, rfl, rfl, rfl, rfl, rfl, rfl, rfl, rfl, rfl, rfl, rfl, rfl, rfl, rfl, rfl, rfl, rfl, rfl, rfl, rfl, rfl, rfl, rfl, rfl, rfl, rfl, rfl, rfl, rfl, rfl, rfl, rfl, rfl, rfl, rfl, rfl, rfl, rfl, trivial⟩, (St.pickRL hS ⟨⟨0, rfl⟩, ⟨⟨1, rfl⟩, ⟨⟨2, rfl⟩, ⟨⟨3, rfl⟩, ⟨⟨4, rfl⟩, ⟨⟨5, rfl⟩, ⟨⟨6, rfl⟩, ⟨⟨7, rfl⟩, ⟨⟨8, rfl⟩, ⟨⟨9, rfl⟩, ⟨⟨10, rfl⟩, ⟨⟨11, rfl⟩, ⟨⟨12, rfl⟩, ⟨⟨13, rfl⟩, ⟨⟨14, rfl⟩, ⟨⟨15, rfl⟩, ⟨⟨16, rfl⟩, ⟨⟨17, rfl⟩, trivial⟩⟩⟩⟩⟩⟩⟩⟩⟩⟩⟩⟩⟩⟩⟩⟩⟩⟩ [0, 1, 2, 3, 4, 5, 6, 7, 8] rfl (by decide)), hs423.nil, hs423.cap, hs422.nil, hs422.cap, hs407.nil, hs407.cap, hs406.nil, hs406.cap⟩
       · refine op_new (vs := [.bool false, .slice none 0 0, .slice none 0 0, .bool false, .slice none 0 0, .slice none 0 0]) (t := 26) hA hS 7 rfl rfl rfl rfl (fun g => .pointer (some ⟨g, 0, none⟩)) (d_alloc (z := .agg #[.bool false, .slice none 0 0, .slice none 0 0, .bool false, .slice none 0 0, .slice none 0 0]) (by kernel_rfl) rfl) rfl ?_
         intro g428 w429 hS
         refine ⟨(hS.partD (.cons _ (.cons _ (.cons_cons _ (.cons_cons _ (.cons_cons _ (.cons_cons _ (.cons_cons _ (.cons_cons _ (.cons_cons _ .slnil))))))))) 0 rfl (.refl _)), ?_⟩
         intro a hA
         refine any_one (by kernel_rfl) (op_call hA 1 rfl rfl rfl rfl (enters_func  rfl rfl (fun w => by kernel_rfl)) (rzero_any _) ?_)
         rintro _ w434 ⟨f430_1, f430_c1, f430_2, f430_c2, rfl, hs431, hs432, hb433⟩
         replace hS := hS.call hb433
         replace hS := hS.addR hs431.rd
         replace hS := hS.addR hs432.rd
         refine ⟨_, rfl, (hS.partD (.cons _ (.cons _ (.cons_cons _ (.cons_cons _ (.cons_cons _ (.cons_cons _ (.cons_cons _ (.cons_cons _ (.cons_cons _ .slnil))))))))) 2 rfl (.refl _)), ?_⟩
         intro a hA
         refine any_tk (v := .agg #[.bool ((rb T.num)), .slice f38_1 ((words T.num.natAbs).length) f38_c1, .slice f38_2 ((words T.den).length) f38_c2, .bool false, .slice f430_1 0 f430_c1, .slice f430_2 1 f430_c2]) hA 2 rfl rfl rfl rfl hP (hS.partD (.cons _ (.cons _ (.cons_cons _ (.cons_cons _ (.cons_cons _ (.cons_cons _ (.cons_cons _ (.cons_cons _ (.cons_cons _ .slnil))))))))) 2 rfl (.refl _)) (fun w1 hS => d_build rfl (fun w => by kernel_rfl)) ?_
         intro a hA
         refine any_one (by kernel_rfl) (op_call hA 4 rfl rfl rfl rfl (enters_func  rfl rfl (fun w => by kernel_rfl)) (rzero_any _) ?_)
         rintro _ w439 ⟨f435_1, f435_c1, f435_2, f435_c2, rfl, hs436, hs437, hb438⟩
         replace hS := hS.call hb438
         replace hS := hS.addR hs436.rd
         replace hS := hS.addR hs437.rd
         refine ⟨_, rfl, (hS.partD (.cons _ (.cons _ (.cons_cons _ (.cons_cons _ (.cons_cons _ (.cons_cons _ (.cons_cons _ (.cons_cons _ (.cons_cons _ .slnil))))))))) 4 rfl (.refl _)), ?_⟩
         intro a hA
         refine any_tk (v := .agg #[.bool ((rb R.num)), .slice J66 ((words R.num.natAbs).length) J67, .slice J68 ((words R.den).length) J69, .bool false, .slice f435_1 0 f435_c1, .slice f435_2 1 f435_c2]) hA 5 rfl rfl rfl rfl hP (hS.partD (.cons _ (.cons _ (.cons_cons _ (.cons_cons _ (.cons_cons _ (.cons_cons _ (.cons_cons _ (.cons_cons _ (.cons_cons _ .slnil))))))))) 4 rfl (.refl _)) (fun w1 hS => d_build rfl (fun w => by kernel_rfl)) ?_
         intro a hA
         refine any_one (by kernel_rfl) (op_store (us := [.bool ((rb T.num)), .slice f38_1 ((words T.num.natAbs).length) f38_c1, .slice f38_2 ((words T.den).length) f38_c2, .bool false, .slice f430_1 0 f430_c1, .slice f430_2 1 f430_c2]) hA hS 8 rfl rfl rfl (sets_store rfl rfl rfl (by kernel_rfl) hS 1 rfl rfl rfl) 1 rfl rfl rfl rfl ?_)
         intro w440 hS
         refine ⟨(hS.partD (.cons _ (.cons _ (.cons_cons _ (.cons_cons _ (.cons_cons _ (.cons_cons _ (.cons_cons _ (.cons_cons _ (.cons_cons _ .slnil))))))))) 4 rfl (.refl _)), ?_⟩
         refine any_one (by kernel_rfl) (op_store (us := [.bool ((rb R.num)), .slice J66 ((words R.num.natAbs).length) J67, .slice J68 ((words R.den).length) J69, .bool false, .slice f435_1 0 f435_c1, .slice f435_2 1 f435_c2]) hA hS 9 rfl rfl rfl (sets_store rfl rfl rfl (by kernel_rfl) hS 0 rfl rfl rfl) 0 rfl rfl rfl rfl ?_)
         intro w441 hS
         refine ⟨(hS.partD (.cons _ (.cons _ (.cons_cons _ (.cons_cons _ (.cons_cons _ (.cons_cons _ (.cons_cons _ (.cons_cons _ (.cons_cons _ .slnil))))))))) 4 rfl (.refl _)), ?_⟩
         refine any_end (by kernel_rfl) ?_
         refine hJ318 _ _ ⟨g403, g428, f430_1, f430_c1, f430_2, f430_c2, f435_1, f435_c1, f435_2, f435_c2, hA.keep _ ⟨rfl, rfl, rfl, rfl, rfl, rfl, rfl, rfl, rfl, rfl, rfl, rfl, rfl, rfl, rfl, rfl, rfl, rfl, rfl, rfl, rfl, rfl, rfl, rfl, rfl, rfl, rfl, rfl, rfl, rfl, rfl, rfl, rfl, rfl, rfl, rfl, rfl, rfl, rfl, rfl, rfl, rfl, rfl, rfl, rfl, trivial⟩, (St.pickRL hS ⟨⟨0, rfl⟩, ⟨⟨1, rfl⟩, ⟨⟨2, rfl⟩, ⟨⟨3, rfl⟩, ⟨⟨4, rfl⟩, ⟨⟨5, rfl⟩, ⟨⟨6, rfl⟩, ⟨⟨7, rfl⟩, ⟨⟨8, rfl⟩, ⟨⟨9, rfl⟩, ⟨⟨10, rfl⟩, ⟨⟨11, rfl⟩, ⟨⟨12, rfl⟩, ⟨⟨13, rfl⟩, ⟨⟨14, rfl⟩, ⟨⟨15, rfl⟩, ⟨⟨16, rfl⟩, ⟨⟨17, rfl⟩, trivial⟩⟩⟩⟩⟩⟩⟩⟩⟩⟩⟩⟩⟩⟩⟩⟩⟩⟩ [0, 1, 2, 3, 4, 5, 6, 7, 8] rfl (by decide)), hs437.nil, hs437.cap, hs436.nil, hs436.cap, hs432.nil, hs432.cap, hs431.nil, hs431.cap⟩
     · refine op_new (vs := [.bool false, .slice none 0 0, .slice none 0 0, .bool false, .slice none 0 0, .slice none 0 0]) (t := 26) hA hS 7 rfl rfl rfl rfl (fun g => .pointer (some ⟨g, 0, none⟩)) (d_alloc (z := .agg #[.bool false, .slice none 0 0, .slice none 0 0, .bool false, .slice none 0 0, .slice none 0 0]) (by kernel_rfl) rfl) rfl ?_
       intro g442 w443 hS
       refine ⟨(hS.partD (.cons _ (.cons_cons _ (.cons_cons _ (.cons_cons _ (.cons_cons _ (.cons_cons _ (.cons_cons _ (.cons_cons _ .slnil)))))))) 0 rfl (.refl _)), ?_⟩
       intro a hA
       refine any_many (rs := [1, 6]) (by kernel_rfl) (by simp) ⟨?_, ?_, trivial⟩
       · refine op_call hA 1 rfl rfl rfl rfl (enters_func  rfl rfl (fun w => by kernel_rfl)) (rzero_any _) ?_
         rintro _ w448 ⟨f444_1, f444_c1, f444_2, f444_c2, rfl, hs445, hs446, hb447⟩
         replace hS := hS.call hb447
         replace hS := hS.addR hs445.rd
         replace hS := hS.addR hs446.rd
         refine ⟨_, rfl, (hS.partD (.cons _ (.cons_cons _ (.cons_cons _ (.cons_cons _ (.cons_cons _ (.cons_cons _ (.cons_cons _ (.cons_cons _ .slnil)))))))) 2 rfl (.refl _)), ?_⟩
         intro a hA
         refine any_tk (v := .agg #[.bool ((rb T.num)), .slice f38_1 ((words T.num.natAbs).length) f38_c1, .slice f38_2 ((words T.den).length) f38_c2, .bool false, .slice f444_1 0 f444_c1, .slice f444_2 1 f444_c2]) hA 2 rfl rfl rfl rfl hP (hS.partD (.cons _ (.cons_cons _ (.cons_cons _ (.cons_cons _ (.cons_cons _ (.cons_cons _ (.cons_cons _ (.cons_cons _ .slnil)))))))) 2 rfl (.refl _)) (fun w1 hS => d_build rfl (fun w => by kernel_rfl)) ?_
         intro a hA
         refine any_many (rs := [4, 6]) (by kernel_rfl) (by simp) ⟨?_, ?_, trivial⟩
         · refine op_call hA 4 rfl rfl rfl rfl (enters_func  rfl rfl (fun w => by kernel_rfl)) (rzero_any _) ?_
           rintro _ w453 ⟨f449_1, f449_c1, f449_2, f449_c2, rfl, hs450, hs451, hb452⟩
           replace hS := hS.call hb452
           replace hS := hS.addR hs450.rd
           replace hS := hS.addR hs451.rd
           refine ⟨_, rfl, (hS.partD (.cons _ (.cons_cons _ (.cons_cons _ (.cons_cons _ (.cons_cons _ (.cons_cons _ (.cons_cons _ (.cons_cons _ .slnil)))))))) 4 rfl (.refl _)), ?_⟩
           intro a hA
           refine any_tk (v := .agg #[.bool ((rb R.num)), .slice J66 ((words R.num.natAbs).length) J67, .slice J68 ((words R.den).length) J69, .bool false, .slice f449_1 0 f449_c1, .slice f449_2 1 f449_c2]) hA 5 rfl rfl rfl rfl hP (hS.partD (.cons _ (.cons_cons _ (.cons_cons _ (.cons_cons _ (.cons_cons _ (.cons_cons _ (.cons_cons _ (.cons_cons _ .slnil)))))))) 4 rfl (.refl _)) (fun w1 hS => d_build rfl (fun w => by kernel_rfl)) ?_
           intro a hA
           refine any_one (by kernel_rfl) (op_new (vs := [.bool false, .slice none 0 0, .slice none 0 0, .bool false, .slice none 0 0, .slice none 0 0]) (t := 26) hA hS 6 rfl rfl rfl rfl (fun g => .pointer (some ⟨g, 0, none⟩)) (d_alloc (z := .agg #[.bool false, .slice none 0 0, .slice none 0 0, .bool false, .slice none 0 0, .slice none 0 0]) (by kernel_rfl) rfl) rfl ?_)
           intro g454 w455 hS
           refine ⟨(hS.partD (.cons _ (.cons _ (.cons_cons _ (.cons_cons _ (.cons_cons _ (.cons_cons _ (.cons_cons _ (.cons_cons _ (.cons_cons _ .slnil))))))))) 4 rfl (.refl _)), ?_⟩
           intro a hA
           refine any_one (by kernel_rfl) (op_store (us := [.bool ((rb T.num)), .slice f38_1 ((words T.num.natAbs).length) f38_c1, .slice f38_2 ((words T.den).length) f38_c2, .bool false, .slice f444_1 0 f444_c1, .slice f444_2 1 f444_c2]) hA hS 8 rfl rfl rfl (sets_store rfl rfl rfl (by kernel_rfl) hS 0 rfl rfl rfl) 0 rfl rfl rfl rfl ?_)
           intro w456 hS
           refine ⟨(hS.partD (.cons _ (.cons _ (.cons_cons _ (.cons_cons _ (.cons_cons _ (.cons_cons _ (.cons_cons _ (.cons_cons _ (.cons_cons _ .slnil))))))))) 4 rfl (.refl _)), ?_⟩
           refine any_one (by kernel_rfl) (op_store (us := [.bool ((rb R.num)), .slice J66 ((words R.num.natAbs).length) J67, .slice J68 ((words R.den).length) J69, .bool false, .slice f449_1 0 f449_c1, .slice f449_2 1 f449_c2]) hA hS 9 rfl rfl rfl (sets_store rfl rfl rfl (by kernel_rfl) hS 1 rfl rfl rfl) 1 rfl rfl rfl rfl ?_)
           intro w457 hS
           refine ⟨(hS.partD (.cons _ (.cons _ (.cons_cons _ (.cons_cons _ (.cons_cons _ (.cons_cons _ (.cons_cons _ (.cons_cons _ (.cons_cons _ .slnil))))))))) 4 rfl (.refl _)), ?_⟩
           refine any_end (by kernel_rfl) ?_
           refine hJ318 _ _ ⟨g454, g442, f444_1, f444_c1, f444_2, f444_c2, f449_1, f449_c1, f449_2, f449_c2, hA.keep _ ⟨rfl, rfl, rfl, rfl, rfl, rfl, rfl, rfl, rfl, rfl, rfl, rfl, rfl, rfl, rfl, rfl, rfl, rfl, rfl, rfl, rfl, rfl, rfl, rfl, rfl, rfl, rfl, rfl, rfl, rfl, rfl, rfl, rfl, rfl, rfl, rfl, rfl, rfl, rfl, rfl, rfl, rfl, rfl, rfl, rfl, trivial⟩, (St.pickRL hS ⟨⟨0, rfl⟩, ⟨⟨1, rfl⟩, ⟨⟨2, rfl⟩, ⟨⟨3, rfl⟩, ⟨⟨4, rfl⟩, ⟨⟨5, rfl⟩, ⟨⟨6, rfl⟩, ⟨⟨7, rfl⟩, ⟨⟨8, rfl⟩, ⟨⟨9, rfl⟩, ⟨⟨10, rfl⟩, ⟨⟨11, rfl⟩, ⟨⟨12, rfl⟩, ⟨⟨13, rfl⟩, ⟨⟨14, rfl⟩, ⟨⟨15, rfl⟩, ⟨⟨16, rfl⟩, ⟨⟨17, rfl⟩, trivial⟩⟩⟩⟩⟩⟩⟩⟩⟩⟩⟩⟩⟩⟩⟩⟩⟩⟩ [1, 0, 2, 3, 4, 5, 6, 7, 8] rfl (by decide)), hs451.nil, hs451.cap, hs450.nil, hs450.cap, hs446.nil, hs446.cap, hs445.nil, hs445.cap⟩
         · refine op_new (vs := [.bool false, .slice none 0 0, .slice none 0 0, .bool false, .slice none 0 0, .slice none 0 0]) (t := 26) hA hS 6 rfl rfl rfl rfl (fun g => .pointer (some ⟨g, 0, none⟩)) (d_alloc (z := .agg #[.bool false, .slice none 0 0, .slice none 0 0, .bool false, .slice none 0 0, .slice none 0 0]) (by kernel_rfl) rfl) rfl ?_
           intro g458 w459 hS
           refine ⟨(hS.partD (.cons _ (.cons _ (.cons_cons _ (.cons_cons _ (.cons_cons _ (.cons_cons _ (.cons_cons _ (.cons_cons _ (.cons_cons _ .slnil))))))))) 2 rfl (.refl _)), ?_⟩
           intro a hA
           refine any_one (by kernel_rfl) (op_call hA 4 rfl rfl rfl rfl (enters_func  rfl rfl (fun w => by kernel_rfl)) (rzero_any _) ?_)
           rintro _ w464 ⟨f460_1, f460_c1, f460_2, f460_c2, rfl, hs461, hs462, hb463⟩
           replace hS := hS.call hb463
           replace hS := hS.addR hs461.rd
           replace hS := hS.addR hs462.rd
           refine ⟨_, rfl, (hS.partD (.cons _ (.cons _ (.cons_cons _ (.cons_cons _ (.cons_cons _ (.cons_cons _ (.cons_cons _ (.cons_cons _ (.cons_cons _ .slnil))))))))) 4 rfl (.refl _)), ?_⟩
           intro a hA
           refine any_tk (v := .agg #[.bool ((rb R.num)), .slice J66 ((words R.num.natAbs).length) J67, .slice J68 ((words R.den).length) J69, .bool false, .slice f460_1 0 f460_c1, .slice f460_2 1 f460_c2]) hA 5 rfl rfl rfl rfl hP (hS.partD (.cons _ (.cons _ (.cons_cons _ (.cons_cons _ (.cons_cons _ (.cons_cons _ (.cons_cons _ (.cons_cons _ (.cons_cons _ .slnil))))))))) 4 rfl (.refl _)) (fun w1 hS => d_build rfl (fun w => by kernel_rfl)) ?_
           intro a hA
           refine any_one (by kernel_rfl) (op_store (us := [.bool ((rb T.num)), .slice f38_1 ((words T.num.natAbs).length) f38_c1, .slice f38_2 ((words T.den).length) f38_c2, .bool false, .slice f444_1 0 f444_c1, .slice f444_2 1 f444_c2]) hA hS 8 rfl rfl rfl (sets_store rfl rfl rfl (by kernel_rfl) hS 0 rfl rfl rfl) 0 rfl rfl rfl rfl ?_)
           intro w465 hS
           refine ⟨(hS.partD (.cons _ (.cons _ (.cons_cons _ (.cons_cons _ (.cons_cons _ (.cons_cons _ (.cons_cons _ (.cons_cons _ (.cons_cons _ .slnil))))))))) 4 rfl (.refl _)), ?_⟩
           refine any_one (by kernel_rfl) (op_store (us := [.bool ((rb R.num)), .slice J66 ((words R.num.natAbs).length) J67, .slice J68 ((words R.den).length) J69, .bool false, .slice f460_1 0 f460_c1, .slice f460_2 1 f460_c2]) hA hS 9 rfl rfl rfl (sets_store rfl rfl rfl (by kernel_rfl) hS 1 rfl rfl rfl) 1 rfl rfl rfl rfl ?_)
           intro w466 hS
           refine ⟨(hS.partD (.cons _ (.cons _ (.cons_cons _ (.cons_cons _ (.cons_cons _ (.cons_cons _ (.cons_cons _ (.cons_cons _ (.cons_cons _ .slnil))))))))) 4 rfl (.refl _)), ?_⟩
           refine any_end (by kernel_rfl) ?_
           refine hJ318 _ _ ⟨g458, g442, f444_1, f444_c1, f444_2, f444_c2, f460_1, f460_c1, f460_2, f460_c2, hA.keep _ ⟨rfl, rfl, rfl, rfl, rfl, rfl, rfl, rfl, rfl, rfl, rfl, rfl, rfl, rfl, rfl, rfl, rfl, rfl, rfl, rfl, rfl, rfl, rfl, rfl, rfl, rfl, rfl, rfl, rfl, rfl, rfl, rfl, rfl, rfl, rfl, rfl, rfl, rfl, rfl, rfl, rfl, rfl, rfl, rfl, rfl, trivial⟩, (St.pickRL hS ⟨⟨0, rfl⟩, ⟨⟨1, rfl⟩, ⟨⟨2, rfl⟩, ⟨⟨3, rfl⟩, ⟨⟨4, rfl⟩, ⟨⟨5, rfl⟩, ⟨⟨6, rfl⟩, ⟨⟨7, rfl⟩, ⟨⟨8, rfl⟩, ⟨⟨9, rfl⟩, ⟨⟨10, rfl⟩, ⟨⟨11, rfl⟩, ⟨⟨12, rfl⟩, ⟨⟨13, rfl⟩, ⟨⟨14, rfl⟩, ⟨⟨15, rfl⟩, ⟨⟨16, rfl⟩, ⟨⟨17, rfl⟩, trivial⟩⟩⟩⟩⟩⟩⟩⟩⟩⟩⟩⟩⟩⟩⟩⟩⟩⟩ [1, 0, 2, 3, 4, 5, 6, 7, 8] rfl (by decide)), hs462.nil, hs462.cap, hs461.nil, hs461.cap, hs446.nil, hs446.cap, hs445.nil, hs445.cap⟩
       · refine op_new (vs := [.bool false, .slice none 0 0, .slice none 0 0, .bool false, .slice none 0 0, .slice none 0 0]) (t := 26) hA hS 6 rfl rfl rfl rfl (fun g => .pointer (some ⟨g, 0, none⟩)) (d_alloc (z := .agg #[.bool false, .slice none 0 0, .slice none 0 0, .bool false, .slice none 0 0, .slice none 0 0]) (by kernel_rfl) rfl) rfl ?_
         intro g467 w468 hS
         refine ⟨(hS.partD (.cons _ (.cons _ (.cons_cons _ (.cons_cons _ (.cons_cons _ (.cons_cons _ (.cons_cons _ (.cons_cons _ (.cons_cons _ .slnil))))))))) 0 rfl (.refl _)), ?_⟩
         intro a hA
         refine any_one (by kernel_rfl) (op_call hA 1 rfl rfl rfl rfl (enters_func  rfl rfl (fun w => by kernel_rfl)) (rzero_any _) ?_)
         rintro _ w473 ⟨f469_1, f469_c1, f469_2, f469_c2, rfl, hs470, hs471, hb472⟩
         replace hS := hS.call hb472
         replace hS := hS.addR hs470.rd
         replace hS := hS.addR hs471.rd
         refine ⟨_, rfl, (hS.partD (.cons _ (.cons _ (.cons_cons _ (.cons_cons _ (.cons_cons _ (.cons_cons _ (.cons_cons _ (.cons_cons _ (.cons_cons _ .slnil))))))))) 2 rfl (.refl _)), ?_⟩
         intro a hA
         refine any_tk (v := .agg #[.bool ((rb T.num)), .slice f38_1 ((words T.num.natAbs).length) f38_c1, .slice f38_2 ((words T.den).length) f38_c2, .bool false, .slice f469_1 0 f469_c1, .slice f469_2 1 f469_c2]) hA 2 rfl rfl rfl rfl hP (hS.partD (.cons _ (.cons _ (.cons_cons _ (.cons_cons _ (.cons_cons _ (.cons_cons _ (.cons_cons _ (.cons_cons _ (.cons_cons _ .slnil))))))))) 2 rfl (.refl _)) (fun w1 hS => d_build rfl (fun w => by kernel_rfl)) ?_
         intro a hA
         refine any_one (by kernel_rfl) (op_call hA 4 rfl rfl rfl rfl (enters_func  rfl rfl (fun w => by kernel_rfl)) (rzero_any _) ?_)
         rintro _ w478 ⟨f474_1, f474_c1, f474_2, f474_c2, rfl, hs475, hs476, hb477⟩
         replace hS := hS.call hb477
         replace hS := hS.addR hs475.rd
         replace hS := hS.addR hs476.rd
         refine ⟨_, rfl, (hS.partD (.cons _ (.cons _ (.cons_cons _ (.cons_cons _ (.cons_cons _ (.cons_cons _ (.cons_cons _ (.cons_cons _ (.cons_cons _ .slnil))))))))) 4 rfl (.refl _)), ?_⟩
         intro a hA
         refine any_tk (v := .agg #[.bool ((rb R.num)), .slice J66 ((words R.num.natAbs).length) J67, .slice J68 ((words R.den).length) J69, .bool false, .slice f474_1 0 f474_c1, .slice f474_2 1 f474_c2]) hA 5 rfl rfl rfl rfl hP (hS.partD (.cons _ (.cons _ (.cons_cons _ (.cons_cons _ (.cons_cons _ (.cons_cons _ (.cons_cons _ (.cons_cons _ (.cons_cons _ .slnil))))))))) 4 rfl (.refl _)) (fun w1 hS => d_build rfl (fun w => by kernel_rfl)) ?_
         intro a hA
         refine any_one (by kernel_rfl) (op_store (us := [.bool ((rb T.num)), .slice f38_1 ((words T.num.natAbs).length) f38_c1, .slice f38_2 ((words T.den).length) f38_c2, .bool false, .slice f469_1 0 f469_c1, .slice f469_2 1 f469_c2]) hA hS 8 rfl rfl rfl (sets_store rfl rfl rfl (by kernel_rfl) hS 0 rfl rfl rfl) 0 rfl rfl rfl rfl ?_)
         intro w479 hS
         refine ⟨(hS.partD (.cons _ (.cons _ (.cons_cons _ (.cons_cons _ (.cons_cons _ (.cons_cons _ (.cons_cons _ (.cons_cons _ (.cons_cons _ .slnil))))))))) 4 rfl (.refl _)), ?_⟩
         refine any_one (by kernel_rfl) (op_store (us := [.bool ((rb R.num)), .slice J66 ((words R.num.natAbs).length) J67, .slice J68 ((words R.den).length) J69, .bool false, .slice f474_1 0 f474_c1, .slice f474_2 1 f474_c2]) hA hS 9 rfl rfl rfl (sets_store rfl rfl rfl (by kernel_rfl) hS 1 rfl rfl rfl) 1 rfl rfl rfl rfl ?_)
         intro w480 hS
         refine ⟨(hS.partD (.cons _ (.cons _ (.cons_cons _ (.cons_cons _ (.cons_cons _ (.cons_cons _ (.cons_cons _ (.cons_cons _ (.cons_cons _ .slnil))))))))) 4 rfl (.refl _)), ?_⟩
         refine any_end (by kernel_rfl) ?_
         refine hJ318 _ _ ⟨g467, g442, f469_1, f469_c1, f469_2, f469_c2, f474_1, f474_c1, f474_2, f474_c2, hA.keep _ ⟨rfl, rfl, rfl, rfl, rfl, rfl, rfl, rfl, rfl, rfl, rfl, rfl, rfl, rfl, rfl, rfl, rfl, rfl, rfl, rfl, rfl, rfl, rfl, rfl, rfl, rfl, rfl, rfl, rfl, rfl, rfl, rfl, rfl, rfl, rfl, rfl, rfl, rfl, rfl, rfl, rfl, rfl, rfl, rfl, rfl, trivial⟩, (St.pickRL hS ⟨⟨0, rfl⟩, ⟨⟨1, rfl⟩, ⟨⟨2, rfl⟩, ⟨⟨3, rfl⟩, ⟨⟨4, rfl⟩, ⟨⟨5, rfl⟩, ⟨⟨6, rfl⟩, ⟨⟨7, rfl⟩, ⟨⟨8, rfl⟩, ⟨⟨9, rfl⟩, ⟨⟨10, rfl⟩, ⟨⟨11, rfl⟩, ⟨⟨12, rfl⟩, ⟨⟨13, rfl⟩, ⟨⟨14, rfl⟩, ⟨⟨15, rfl⟩, ⟨⟨16, rfl⟩, ⟨⟨17, rfl⟩, trivial⟩⟩⟩⟩⟩⟩⟩⟩⟩⟩⟩⟩⟩⟩⟩⟩⟩⟩ [1, 0, 2, 3, 4, 5, 6, 7, 8] rfl (by decide)), hs476.nil, hs476.cap, hs475.nil, hs475.cap, hs471.nil, hs471.cap, hs470.nil, hs470.cap⟩
 refine wp_draw (S := fun w1 => St w w1 [(g43, [.bool ((rb T.num)), .slice f38_1 ((words T.num.natAbs).length) f38_c1, .slice f38_2 ((words T.den).length) f38_c2]), (g27, [.bool false, .slice u1 ((words x.num.natAbs).length) uc1, .slice u2 ((words x.den).length) uc2]), (g8, [.bool false, .slice none 0 0, .slice none 0 0, .bool false, .slice none 0 0, .slice none 0 0]), (g6, [.bool false, .slice none 0 0, .slice none 0 0, .bool false, .slice none 0 0, .slice none 0 0]), (g4, [.bool (rb x.num), .slice u1 ((words x.num.natAbs).length) uc1, .slice u2 ((words x.den).length) uc2, .bool (rb y.num), .slice u3 ((words y.num.natAbs).length) uc3, .slice u4 ((words y.den).length) uc4]), (g2, [.bool (rb u.num), .slice a1 ((words u.num.natAbs).length) ac1, .slice a2 ((words u.den).length) ac2, .bool (rb v.num), .slice a3 ((words v.num.natAbs).length) ac3, .slice a4 ((words v.den).length) ac4])] [(f38_2, words T.den), (f38_1, words T.num.natAbs), (f33_2, words p1.den), (f33_1, words p1.num.natAbs), (u4, words y.den), (u3, words y.num.natAbs), (u2, words x.den), (u1, words x.num.natAbs), (a4, words v.den), (a3, words v.num.natAbs), (a2, words u.den), (a1, words u.num.natAbs)] []) (by kernel_rfl) ?_
 replace hS := hS.drew
 refine any_tk (v := .pointer (some ⟨g2, 0, none⟩)) hA 0 rfl rfl rfl rfl hP hS (fun w1 hS => d_field SmF_fld_26_0 rfl rfl) ?_
 intro a hA
 refine any_tk hA 1 rfl rfl rfl rfl hP hS (fun w1 hS => d_loadS hS SmF_isS_24 rfl 5 rfl (cs := [.bool (rb u.num), .slice a1 ((words u.num.natAbs).length) ac1, .slice a2 ((words u.den).length) ac2]) rfl rfl) ?_
 intro a hA
 refine any_tk hA 2 rfl rfl rfl rfl hP hS (fun w1 hS => d_loadS hS SmF_isS_24 rfl 0 rfl (cs := [.bool ((rb T.num)), .slice f38_1 ((words T.num.natAbs).length) f38_c1, .slice f38_2 ((words T.den).length) f38_c2]) rfl rfl) ?_
 intro a hA
 refine any_tk hA 3 rfl rfl rfl rfl hP hS (fun w1 hS => d_loadS hS SmF_isS_24 rfl 1 rfl (cs := [.bool false, .slice u1 ((words x.num.natAbs).length) uc1, .slice u2 ((words x.den).length) uc2]) rfl rfl) ?_
 intro a hA
 refine any_many (rs := [4, 7]) (by kernel_rfl) (by simp) ⟨?_, ?_, trivial⟩
 · refine op_call hA 4 rfl rfl rfl rfl (enters_func  rfl rfl (fun w => by kernel_rfl)) (rprodA_any ⟨(hS.rd 1 rfl), hs39.nil, hs39.cap⟩ ⟨(hS.rd 0 rfl), hs40.nil, hs40.cap⟩ ⟨(hS.rd 7 rfl), hb.s1.nil, hb.s1.cap⟩ ⟨(hS.rd 6 rfl), hb.s2.nil, hb.s2.cap⟩ (LR_T.mono (by decide)) (LR_x.mono (by decide)) hx0 hP2) ?_
   rintro _ w485 ⟨f481_1, f481_c1, f481_2, f481_c2, rfl, hs482, hs483, hb484⟩
   replace hS := hS.call hb484
   replace hS := hS.addR hs482.rd
   replace hS := hS.addR hs483.rd
   refine ⟨_, rfl, (hS.partD (.refl _) 2 rfl (.refl _)), ?_⟩
   intro a hA
   refine any_many (rs := [5, 7]) (by kernel_rfl) (by simp) ⟨?_, ?_, trivial⟩
   · refine op_call hA 5 rfl rfl rfl rfl (enters_func  rfl rfl (fun w => by kernel_rfl)) (rminusR_any ⟨(hS.rd 1 rfl), hs482.nil, hs482.cap⟩ ⟨(hS.rd 0 rfl), hs483.nil, hs483.cap⟩ hM) ?_
     rintro _ w490 ⟨f486_1, f486_c1, f486_2, f486_c2, rfl, hs487, hs488, hb489⟩
     replace hS := hS.call hb489
     replace hS := hS.addR hs487.rd
     replace hS := hS.addR hs488.rd
     refine ⟨_, rfl, (hS.partD (.refl _) 4 rfl (.refl _)), ?_⟩
     intro a hA
     refine any_many (rs := [6, 7]) (by kernel_rfl) (by simp) ⟨?_, ?_, trivial⟩
     · refine op_call hA 6 rfl rfl rfl rfl (enters_func  rfl rfl (fun w => by kernel_rfl)) (rsumR_any ⟨(hS.rd 15 rfl), ha.s1.nil, ha.s1.cap⟩ ⟨(hS.rd 14 rfl), ha.s2.nil, ha.s2.cap⟩ ⟨(hS.rd 1 rfl), hs487.nil, hs487.cap⟩ ⟨(hS.rd 0 rfl), hs488.nil, hs488.cap⟩ (LR_u.mono (by decide)) (LR_m2.mono (by decide)) hR) ?_
       rintro _ w495 ⟨f491_1, f491_c1, f491_2, f491_c2, rfl, hs492, hs493, hb494⟩
       replace hS := hS.call hb494
       replace hS := hS.addR hs492.rd
       replace hS := hS.addR hs493.rd
       refine ⟨_, rfl, (hS.partD (.refl _) 6 rfl (.refl _)), ?_⟩
       intro a hA
       refine any_one (by kernel_rfl) (op_new (vs := [.bool false, .slice none 0 0, .slice none 0 0]) (t := 24) hA hS 7 rfl rfl rfl rfl (fun g => .pointer (some ⟨g, 0, none⟩)) (d_alloc (z := .agg #[.bool false, .slice none 0 0, .slice none 0 0]) (by kernel_rfl) rfl) rfl ?_)
       intro g496 w497 hS
       refine ⟨(hS.partD (.cons _ (.cons_cons _ (.cons_cons _ (.cons_cons _ (.cons_cons _ (.cons_cons _ (.cons_cons _ .slnil))))))) 6 rfl (.refl _)), ?_⟩
       intro a hA
       refine any_one (by kernel_rfl) (op_store (us := [.bool ((rb R.num)), .slice f491_1 ((words R.num.natAbs).length) f491_c1, .slice f491_2 ((words R.den).length) f491_c2]) hA hS 8 rfl rfl rfl (sets_store rfl rfl rfl (by kernel_rfl) hS 0 rfl rfl rfl) 0 rfl rfl rfl rfl ?_)
       intro w498 hS
       refine ⟨(hS.partD (.cons _ (.cons_cons _ (.cons_cons _ (.cons_cons _ (.cons_cons _ (.cons_cons _ (.cons_cons _ .slnil))))))) 6 rfl (.refl _)), ?_⟩
       refine any_end (by kernel_rfl) ?_
       refine hJ74 _ _ ⟨g496, f491_1, f491_c1, f491_2, f491_c2, hA.keep _ ⟨rfl, rfl, rfl, rfl, rfl, rfl, rfl, rfl, rfl, rfl, rfl, rfl, rfl, rfl, rfl, rfl, rfl, rfl, rfl, rfl, rfl, rfl, rfl, rfl, rfl, rfl, rfl, rfl, rfl, rfl, rfl, rfl, rfl, rfl, rfl, rfl, rfl, rfl, rfl, rfl, trivial⟩, (St.pickRL hS ⟨⟨0, rfl⟩, ⟨⟨1, rfl⟩, ⟨⟨6, rfl⟩, ⟨⟨7, rfl⟩, ⟨⟨8, rfl⟩, ⟨⟨9, rfl⟩, ⟨⟨10, rfl⟩, ⟨⟨11, rfl⟩, ⟨⟨12, rfl⟩, ⟨⟨13, rfl⟩, ⟨⟨14, rfl⟩, ⟨⟨15, rfl⟩, ⟨⟨16, rfl⟩, ⟨⟨17, rfl⟩, trivial⟩⟩⟩⟩⟩⟩⟩⟩⟩⟩⟩⟩⟩⟩ [0, 1, 2, 3, 4, 5, 6] rfl (by decide)), hs493.nil, hs493.cap, hs492.nil, hs492.cap⟩
     · refine op_new (vs := [.bool false, .slice none 0 0, .slice none 0 0]) (t := 24) hA hS 7 rfl rfl rfl rfl (fun g => .pointer (some ⟨g, 0, none⟩)) (d_alloc (z := .agg #[.bool false, .slice none 0 0, .slice none 0 0]) (by kernel_rfl) rfl) rfl ?_
       intro g499 w500 hS
       refine ⟨(hS.partD (.cons _ (.cons_cons _ (.cons_cons _ (.cons_cons _ (.cons_cons _ (.cons_cons _ (.cons_cons _ .slnil))))))) 4 rfl (.refl _)), ?_⟩
       intro a hA
       refine any_one (by kernel_rfl) (op_call hA 6 rfl rfl rfl rfl (enters_func  rfl rfl (fun w => by kernel_rfl)) (rsumR_any ⟨(hS.rd 15 rfl), ha.s1.nil, ha.s1.cap⟩ ⟨(hS.rd 14 rfl), ha.s2.nil, ha.s2.cap⟩ ⟨(hS.rd 1 rfl), hs487.nil, hs487.cap⟩ ⟨(hS.rd 0 rfl), hs488.nil, hs488.cap⟩ (LR_u.mono (by decide)) (LR_m2.mono (by decide)) hR) ?_)
       rintro _ w505 ⟨f501_1, f501_c1, f501_2, f501_c2, rfl, hs502, hs503, hb504⟩
       replace hS := hS.call hb504
       replace hS := hS.addR hs502.rd
       replace hS := hS.addR hs503.rd
       refine ⟨_, rfl, (hS.partD (.cons _ (.cons_cons _ (.cons_cons _ (.cons_cons _ (.cons_cons _ (.cons_cons _ (.cons_cons _ .slnil))))))) 6 rfl (.refl _)), ?_⟩
       intro a hA
       refine any_one (by kernel_rfl) (op_store (us := [.bool ((rb R.num)), .slice f501_1 ((words R.num.natAbs).length) f501_c1, .slice f501_2 ((words R.den).length) f501_c2]) hA hS 8 rfl rfl rfl (sets_store rfl rfl rfl (by kernel_rfl) hS 0 rfl rfl rfl) 0 rfl rfl rfl rfl ?_)
       intro w506 hS
       refine ⟨(hS.partD (.cons _ (.cons_cons _ (.cons_cons _ (.cons_cons _ (.cons_cons _ (.cons_cons _ (.cons_cons _ .slnil))))))) 6 rfl (.refl _)), ?_⟩
       refine any_end (by kernel_rfl) ?_
       refine hJ74 _ _ ⟨g499, f501_1, f501_c1, f501_2, f501_c2, hA.keep _ ⟨rfl, rfl, rfl, rfl, rfl, rfl, rfl, rfl, rfl, rfl, rfl, rfl, rfl, rfl, rfl, rfl, rfl, rfl, rfl, rfl, rfl, rfl, rfl, rfl, rfl, rfl, rfl, rfl, rfl, rfl, rfl, rfl, rfl, rfl, rfl, rfl, rfl, rfl, rfl, rfl, trivial⟩, (St.pickRL hS ⟨⟨0, rfl⟩, ⟨⟨1, rfl⟩, ⟨⟨6, rfl⟩, ⟨⟨7, rfl⟩, ⟨⟨8, rfl⟩, ⟨⟨9, rfl⟩, ⟨⟨10, rfl⟩, ⟨⟨11, rfl⟩, ⟨⟨12, rfl⟩, ⟨⟨13, rfl⟩, ⟨⟨14, rfl⟩, ⟨⟨15, rfl⟩, ⟨⟨16, rfl⟩, ⟨⟨17, rfl⟩, trivial⟩⟩⟩⟩⟩⟩⟩⟩⟩⟩⟩⟩⟩⟩ [0, 1, 2, 3, 4, 5, 6] rfl (by decide)), hs503.nil, hs503.cap, hs502.nil, hs502.cap⟩
   · refine op_new (vs := [.bool false, .slice none 0 0, .slice none 0 0]) (t := 24) hA hS 7 rfl rfl rfl rfl (fun g => .pointer (some ⟨g, 0, none⟩)) (d_alloc (z := .agg #[.bool false, .slice none 0 0, .slice none 0 0]) (by kernel_rfl) rfl) rfl ?_
     intro g507 w508 hS
     refine ⟨(hS.partD (.cons _ (.cons_cons _ (.cons_cons _ (.cons_cons _ (.cons_cons _ (.cons_cons _ (.cons_cons _ .slnil))))))) 2 rfl (.refl _)), ?_⟩
     intro a hA
     refine any_one (by kernel_rfl) (op_call hA 5 rfl rfl rfl rfl (enters_func  rfl rfl (fun w => by kernel_rfl)) (rminusR_any ⟨(hS.rd 1 rfl), hs482.nil, hs482.cap⟩ ⟨(hS.rd 0 rfl), hs483.nil, hs483.cap⟩ hM) ?_)
     rintro _ w513 ⟨f509_1, f509_c1, f509_2, f509_c2, rfl, hs510, hs511, hb512⟩
     replace hS := hS.call hb512
     replace hS := hS.addR hs510.rd
     replace hS := hS.addR hs511.rd
     refine ⟨_, rfl, (hS.partD (.cons _ (.cons_cons _ (.cons_cons _ (.cons_cons _ (.cons_cons _ (.cons_cons _ (.cons_cons _ .slnil))))))) 4 rfl (.refl _)), ?_⟩
     intro a hA
     refine any_one (by kernel_rfl) (op_call hA 6 rfl rfl rfl rfl (enters_func  rfl rfl (fun w => by kernel_rfl)) (rsumR_any ⟨(hS.rd 15 rfl), ha.s1.nil, ha.s1.cap⟩ ⟨(hS.rd 14 rfl), ha.s2.nil, ha.s2.cap⟩ ⟨(hS.rd 1 rfl), hs510.nil, hs510.cap⟩ ⟨(hS.rd 0 rfl), hs511.nil, hs511.cap⟩ (LR_u.mono (by decide)) (LR_m2.mono (by decide)) hR) ?_)
     rintro _ w518 ⟨f514_1, f514_c1, f514_2, f514_c2, rfl, hs515, hs516, hb517⟩
     replace hS := hS.call hb517
     replace hS := hS.addR hs515.rd
     replace hS := hS.addR hs516.rd
     refine ⟨_, rfl, (hS.partD (.cons _ (.cons_cons _ (.cons_cons _ (.cons_cons _ (.cons_cons _ (.cons_cons _ (.cons_cons _ .slnil))))))) 6 rfl (.refl _)), ?_⟩
     intro a hA
     refine any_one (by kernel_rfl) (op_store (us := [.bool ((rb R.num)), .slice f514_1 ((words R.num.natAbs).length) f514_c1, .slice f514_2 ((words R.den).length) f514_c2]) hA hS 8 rfl rfl rfl (sets_store rfl rfl rfl (by kernel_rfl) hS 0 rfl rfl rfl) 0 rfl rfl rfl rfl ?_)
     intro w519 hS
     refine ⟨(hS.partD (.cons _ (.cons_cons _ (.cons_cons _ (.cons_cons _ (.cons_cons _ (.cons_cons _ (.cons_cons _ .slnil))))))) 6 rfl (.refl _)), ?_⟩
     refine any_end (by kernel_rfl) ?_
     refine hJ74 _ _ ⟨g507, f514_1, f514_c1, f514_2, f514_c2, hA.keep _ ⟨rfl, rfl, rfl, rfl, rfl, rfl, rfl, rfl, rfl, rfl, rfl, rfl, rfl, rfl, rfl, rfl, rfl, rfl, rfl, rfl, rfl, rfl, rfl, rfl, rfl, rfl, rfl, rfl, rfl, rfl, rfl, rfl, rfl, rfl, rfl, rfl, rfl, rfl, rfl, rfl, trivial⟩, (St.pickRL hS ⟨⟨0, rfl⟩, ⟨⟨1, rfl⟩, ⟨⟨6, rfl⟩, ⟨⟨7, rfl⟩, ⟨⟨8, rfl⟩, ⟨⟨9, rfl⟩, ⟨⟨10, rfl⟩, ⟨⟨11, rfl⟩, ⟨⟨12, rfl⟩, ⟨⟨13, rfl⟩, ⟨⟨14, rfl⟩, ⟨⟨15, rfl⟩, ⟨⟨16, rfl⟩, ⟨⟨17, rfl⟩, trivial⟩⟩⟩⟩⟩⟩⟩⟩⟩⟩⟩⟩⟩⟩ [0, 1, 2, 3, 4, 5, 6] rfl (by decide)), hs516.nil, hs516.cap, hs515.nil, hs515.cap⟩
 · refine op_new (vs := [.bool false, .slice none 0 0, .slice none 0 0]) (t := 24) hA hS 7 rfl rfl rfl rfl (fun g => .pointer (some ⟨g, 0, none⟩)) (d_alloc (z := .agg #[.bool false, .slice none 0 0, .slice none 0 0]) (by kernel_rfl) rfl) rfl ?_
   intro g520 w521 hS
   refine ⟨(hS.partD (.cons _ (.cons_cons _ (.cons_cons _ (.cons_cons _ (.cons_cons _ (.cons_cons _ (.cons_cons _ .slnil))))))) 0 rfl (.refl _)), ?_⟩
   intro a hA
   refine any_one (by kernel_rfl) (op_call hA 4 rfl rfl rfl rfl (enters_func  rfl rfl (fun w => by kernel_rfl)) (rprodA_any ⟨(hS.rd 1 rfl), hs39.nil, hs39.cap⟩ ⟨(hS.rd 0 rfl), hs40.nil, hs40.cap⟩ ⟨(hS.rd 7 rfl), hb.s1.nil, hb.s1.cap⟩ ⟨(hS.rd 6 rfl), hb.s2.nil, hb.s2.cap⟩ (LR_T.mono (by decide)) (LR_x.mono (by decide)) hx0 hP2) ?_)
   rintro _ w526 ⟨f522_1, f522_c1, f522_2, f522_c2, rfl, hs523, hs524, hb525⟩
   replace hS := hS.call hb525
   replace hS := hS.addR hs523.rd
   replace hS := hS.addR hs524.rd
   refine ⟨_, rfl, (hS.partD (.cons _ (.cons_cons _ (.cons_cons _ (.cons_cons _ (.cons_cons _ (.cons_cons _ (.cons_cons _ .slnil))))))) 2 rfl (.refl _)), ?_⟩
   intro a hA
   refine any_one (by kernel_rfl) (op_call hA 5 rfl rfl rfl rfl (enters_func  rfl rfl (fun w => by kernel_rfl)) (rminusR_any ⟨(hS.rd 1 rfl), hs523.nil, hs523.cap⟩ ⟨(hS.rd 0 rfl), hs524.nil, hs524.cap⟩ hM) ?_)
   rintro _ w531 ⟨f527_1, f527_c1, f527_2, f527_c2, rfl, hs528, hs529, hb530⟩
   replace hS := hS.call hb530
   replace hS := hS.addR hs528.rd
   replace hS := hS.addR hs529.rd
   refine ⟨_, rfl, (hS.partD (.cons _ (.cons_cons _ (.cons_cons _ (.cons_cons _ (.cons_cons _ (.cons_cons _ (.cons_cons _ .slnil))))))) 4 rfl (.refl _)), ?_⟩
   intro a hA
   refine any_one (by kernel_rfl) (op_call hA 6 rfl rfl rfl rfl (enters_func  rfl rfl (fun w => by kernel_rfl)) (rsumR_any ⟨(hS.rd 15 rfl), ha.s1.nil, ha.s1.cap⟩ ⟨(hS.rd 14 rfl), ha.s2.nil, ha.s2.cap⟩ ⟨(hS.rd 1 rfl), hs528.nil, hs528.cap⟩ ⟨(hS.rd 0 rfl), hs529.nil, hs529.cap⟩ (LR_u.mono (by decide)) (LR_m2.mono (by decide)) hR) ?_)
   rintro _ w536 ⟨f532_1, f532_c1, f532_2, f532_c2, rfl, hs533, hs534, hb535⟩
   replace hS := hS.call hb535
   replace hS := hS.addR hs533.rd
   replace hS := hS.addR hs534.rd
   refine ⟨_, rfl, (hS.partD (.cons _ (.cons_cons _ (.cons_cons _ (.cons_cons _ (.cons_cons _ (.cons_cons _ (.cons_cons _ .slnil))))))) 6 rfl (.refl _)), ?_⟩
   intro a hA
   refine any_one (by kernel_rfl) (op_store (us := [.bool ((rb R.num)), .slice f532_1 ((words R.num.natAbs).length) f532_c1, .slice f532_2 ((words R.den).length) f532_c2]) hA hS 8 rfl rfl rfl (sets_store rfl rfl rfl (by kernel_rfl) hS 0 rfl rfl rfl) 0 rfl rfl rfl rfl ?_)
   intro w537 hS
   refine ⟨(hS.partD (.cons _ (.cons_cons _ (.cons_cons _ (.cons_cons _ (.cons_cons _ (.cons_cons _ (.cons_cons _ .slnil))))))) 6 rfl (.refl _)), ?_⟩
   refine any_end (by kernel_rfl) ?_
   refine hJ74 _ _ ⟨g520, f532_1, f532_c1, f532_2, f532_c2, hA.keep _ ⟨rfl, rfl, rfl, rfl, rfl, rfl, rfl, rfl, rfl, rfl, rfl, rfl, rfl, rfl, rfl, rfl, rfl, rfl, rfl, rfl, rfl, rfl, rfl, rfl, rfl, rfl, rfl, rfl, rfl, rfl, rfl, rfl, rfl, rfl, rfl, rfl, rfl, rfl, rfl, rfl, trivial⟩, (St.pickRL hS ⟨⟨0, rfl⟩, ⟨⟨1, rfl⟩, ⟨⟨6, rfl⟩, ⟨⟨7, rfl⟩, ⟨⟨8, rfl⟩, ⟨⟨9, rfl⟩, ⟨⟨10, rfl⟩, ⟨⟨11, rfl⟩, ⟨⟨12, rfl⟩, ⟨⟨13, rfl⟩, ⟨⟨14, rfl⟩, ⟨⟨15, rfl⟩, ⟨⟨16, rfl⟩, ⟨⟨17, rfl⟩, trivial⟩⟩⟩⟩⟩⟩⟩⟩⟩⟩⟩⟩⟩⟩ [0, 1, 2, 3, 4, 5, 6] rfl (by decide)), hs534.nil, hs534.cap, hs533.nil, hs533.cap⟩
theorem rdmQ_any {w : World} {p q : Q6} {a1 a2 a3 a4 : Option Addr} {ac1 ac2 ac3 ac4 : Nat} (ha : Nm w p a1 ac1 a2 ac2 a3 ac3 a4 ac4) (hl : LenQ p) {u1 u2 u3 u4 : Option Addr} {uc1 uc2 uc3 uc4 : Nat} (hb : Nm w q u1 uc1 u2 uc2 u3 uc3 u4 uc4) (hm : LenQ q) : Calls Tryz.prog 29 #[numV p a1 ac1 a2 ac2 a3 ac3 a4 ac4, numV q u1 uc1 u2 uc2 u3 uc3 u4 uc4] w (AnsNN w (dmQ p q)) := by
  unfold dmQ
  rcases sound_cases ha with h1 | ⟨u, v, rfl, hu, hv⟩
  · rw [wantR2_bad (.inl h1), if_neg (by decide)]
    exact rdmE0_any ha hl hb hm h1
  have s1 := soundQ_rat hu hv
  rcases sound_cases hb with h2 | ⟨x, y, rfl, hx, hy⟩
  · rw [wantR2_bad (.inr h2), if_neg (by decide)]
    exact rdmE1_any ha hl hb hm s1 h2
  have s2 := soundQ_rat hx hy
  have hw : ∀ n : Int, (if (Q6.rat u v).t2.length = 0 ∧ (Q6.rat x y).t2.length = 0 then (0 : Int) else 10) = n → wantR2 (Q6.rat u v) (Q6.rat x y) = n := fun n h => by
    unfold wantR2
    rw [if_pos ⟨s1, s2⟩]
    exact h
  by_cases k1 : (Q6.rat u v).t2.length = 0
  · by_cases k2 : (Q6.rat x y).t2.length = 0
    · rw [hw 0 (if_pos ⟨k1, k2⟩), if_pos rfl, reQ_rat, reQ_rat]
      obtain rfl := real_zero k2
      by_cases hz : x = 0
      · rw [if_pos hz]
        exact rdmZ_any ha hb hu hv hx hy (decide_eq_true k1) (decide_eq_true k2) ⟨hz, rfl⟩
      · rw [if_neg hz, quoR_abs hz, remR_abs hz]
        have fu := fit_lenR hu
        have fx := fit_lenR hx
        obtain ⟨i1, i2, i3⟩ := inv_parts (absR_pos hz)
        have fi : LenR 512 (1 / absR x) := by
          unfold LenR
          rw [i1, i2, absR_num, absR_den]
          exact ⟨fx.2, fx.1⟩
        have fa : LenR 512 (absR x) := by
          unfold LenR
          rw [absR_num, absR_den]
          exact fx
        have f1 := lenR_mul fu fi
        have f2 := lenR_flo f1 (by decide)
        have f3 := lenR_mul f2 fa
        refine rdmW_any ha hb hu hv hx hy (decide_eq_true k1) (decide_eq_true k2) (fun c => hz c.1) hz fu fx rfl (f1.mono (by decide)) rfl (f2.mono (by decide)) rfl (f3.mono (by decide)) rfl ((lenR_neg f3).mono (by decide)) rfl ((lenR_add (fu.mono (by decide)) (lenR_neg f3)).mono (by decide)) rfl ((lenR_neg f2).mono (by decide)) ?_
        unfold qabs
        cases hb : rb x.num with
        | true => rw [if_pos rfl, Rat.mkRat_one, Rat.intCast_neg]; rfl
        | false => rw [if_neg (by decide), Rat.mkRat_one]; rfl
    · rw [hw 10 (if_neg (fun c => k2 c.2)), if_neg (by decide)]
      exact rdmE3_any ha hl hb hm s1 s2 (decide_eq_true k1) (decide_eq_false k2)
  · rw [hw 10 (if_neg (fun c => k1 c.1)), if_neg (by decide)]
    exact rdmE2_any ha hl hb hm s1 s2 (decide_eq_false k1)
end Go.Proofs.YthlkbnhbmfmchaaGreat
namespace Go.Proofs.YthlkbnhbmfmchaaGreat
open Go.RowKit
set_option linter.unusedVariables false
set_option linter.unusedSimpArgs false
set_option maxRecDepth 100000
theorem SmH_isS_26 : IsS Tryz.prog 26 6 := ⟨⟨_, Tryz.underlying26⟩, by kernel_rfl⟩
theorem floorQ_as {w : World} {q : Q6} {a1 a2 a3 a4 : Option Addr} {ac1 ac2 ac3 ac4 : Nat} (ha : Nm w q a1 ac1 a2 ac2 a3 ac3 a4 ac4) (hl : LenQ q) {z : Q6 × Int} (hz : floorQ q = z) : Calls Tryz.prog 26 #[numV q a1 ac1 a2 ac2 a3 ac3 a4 ac4] w (AnsN w z) := hz ▸ floorQ_any ha hl
theorem rfloorQ_as {w : World} {q : Q6} {a1 a2 a3 a4 : Option Addr} {ac1 ac2 ac3 ac4 : Nat} (ha : Nm w q a1 ac1 a2 ac2 a3 ac3 a4 ac4) (hl : LenQ q) {z : Q6 × Int} (hz : floorQ q = z) : Calls Tryz.prog 27 #[numV q a1 ac1 a2 ac2 a3 ac3 a4 ac4] w (AnsN w z) := hz ▸ rfloorQ_any ha hl
theorem dmQ_at {w : World} {p q : Q6} {a1 a2 a3 a4 : Option Addr} {ac1 ac2 ac3 ac4 : Nat} (ha : Nm w p a1 ac1 a2 ac2 a3 ac3 a4 ac4) (hl : LenQ p) {u1 u2 u3 u4 : Option Addr} {uc1 uc2 uc3 uc4 : Nat} (hb : Nm w q u1 uc1 u2 uc2 u3 uc3 u4 uc4) (hm : LenQ q) {t : Q6 × Q6 × Int} (ht : dmQ p q = t) : Calls Tryz.prog 28 #[numV p a1 ac1 a2 ac2 a3 ac3 a4 ac4, numV q u1 uc1 u2 uc2 u3 uc3 u4 uc4] w (AnsNN w t) := ht ▸ dmQ_any ha hl hb hm
theorem rdmQ_at {w : World} {p q : Q6} {a1 a2 a3 a4 : Option Addr} {ac1 ac2 ac3 ac4 : Nat} (ha : Nm w p a1 ac1 a2 ac2 a3 ac3 a4 ac4) (hl : LenQ p) {u1 u2 u3 u4 : Option Addr} {uc1 uc2 uc3 uc4 : Nat} (hb : Nm w q u1 uc1 u2 uc2 u3 uc3 u4 uc4) (hm : LenQ q) {t : Q6 × Q6 × Int} (ht : dmQ p q = t) : Calls Tryz.prog 29 #[numV p a1 ac1 a2 ac2 a3 ac3 a4 ac4, numV q u1 uc1 u2 uc2 u3 uc3 u4 uc4] w (AnsNN w t) := ht ▸ rdmQ_any ha hl hb hm
theorem lenQ_floor (q : Q6) : LenQ (floorQ q).1 := by unfold floorQ; split; exact lenQ_ratS _ _; exact lenQ_z
theorem lenQ_dm (p q : Q6) : LenQ (dmQ p q).1 ∧ LenQ (dmQ p q).2.1 := by
  unfold dmQ dmS
  split
  · split
    · exact ⟨lenQ_z, lenQ_z⟩
    · split
      · split
        · exact ⟨lenQ_ratS _ _, lenQ_ratS _ _⟩
        · exact ⟨lenQ_z, lenQ_z⟩
      · exact ⟨lenQ_z, lenQ_z⟩
  · exact ⟨lenQ_z, lenQ_z⟩
set_option maxHeartbeats 1000000 in
theorem wholesW_any {w : World} {p q : Q6} {a1 a2 a3 a4 : Option Addr} {ac1 ac2 ac3 ac4 : Nat} (ha : Nm w p a1 ac1 a2 ac2 a3 ac3 a4 ac4) (hl : LenQ p) {u1 u2 u3 u4 : Option Addr} {uc1 uc2 uc3 uc4 : Nat} (hb : Nm w q u1 uc1 u2 uc2 u3 uc3 u4 uc4) (hm : LenQ q) {z1 : Q6 × Int} {t : Q6 × Q6 × Int} (e1 : floorQ p = z1) (l1 : LenQ z1.1) (et : dmQ p q = t) (lt1 : LenQ t.1) (lt2 : LenQ t.2.1) : Calls Tryz.prog 4 #[numV p a1 ac1 a2 ac2 a3 ac3 a4 ac4, numV q u1 uc1 u2 uc2 u3 uc3 u4 uc4] w fun e w' => e = .returned (.bool true) ∧ Below w.heap.size w w' := by
 have hS : St w w [] [(u4, q.q2), (u3, q.t2), (u2, q.q1), (u1, q.t1), (a4, p.q2), (a3, p.t2), (a2, p.q1), (a1, p.t1)] [] := ((((((((St.start w).addR ha.s1.rd).addR ha.s2.rd).addR ha.s3.rd).addR ha.s4.rd).addR hb.s1.rd).addR hb.s2.rd).addR hb.s3.rd).addR hb.s4.rd
 refine walk_of (l := [(0, .agg #[.bool p.b1, .slice a1 p.t1.length ac1, .slice a2 p.q1.length ac2, .bool p.b2, .slice a3 p.t2.length ac3, .slice a4 p.q2.length ac4]), (1, .agg #[.bool q.b1, .slice u1 q.t1.length uc1, .slice u2 q.q1.length uc2, .bool q.b2, .slice u3 q.t2.length uc3, .slice u4 q.q2.length uc4])]) Tryz.func4 rfl Tryz.ntmps4 rfl rfl ?_
 intro Q hret hnorm hP a hA
 refine wp_seq_k (fun K1 hK1 => ?_)
 refine wp_region_lit ?_
 refine seq_new hA hS rfl rfl rfl (fun g => .pointer (some ⟨g, 0, none⟩)) (d_box rfl rfl) rfl ?_
 intro g2 w3 hS a hA
 refine seq_new hA hS rfl rfl rfl (fun g => .pointer (some ⟨g, 0, none⟩)) (d_box rfl rfl) rfl ?_
 intro g4 w5 hS a hA
 refine seq_do hA rfl rfl rfl (d_assign rfl) ?_
 intro a hA
 refine seq_end ?_
 refine hK1 _ _ ?_
 refine wp_seq_k (fun K6 hK6 => ?_)
 refine wp_region_lit ?_
 refine seq_do hA rfl rfl rfl (d_loadS hS SmH_isS_26 rfl 1 rfl (cs := [.bool p.b1, .slice a1 p.t1.length ac1, .slice a2 p.q1.length ac2, .bool p.b2, .slice a3 p.t2.length ac3, .slice a4 p.q2.length ac4]) rfl rfl) ?_
 intro a hA
 refine seq_call hA rfl rfl rfl (enters_func  rfl rfl (fun w => by kernel_rfl)) (floorQ_as (show Nm _ p a1 ac1 a2 ac2 a3 ac3 a4 ac4 from ⟨⟨(hS.rd 7 rfl), ha.s1.nil, ha.s1.cap⟩, ⟨(hS.rd 6 rfl), ha.s2.nil, ha.s2.cap⟩, ⟨(hS.rd 5 rfl), ha.s3.nil, ha.s3.cap⟩, ⟨(hS.rd 4 rfl), ha.s4.nil, ha.s4.cap⟩⟩) hl e1) ?_
 rintro _ w10 ⟨p7_1, p7_c1, p7_2, p7_c2, p7_3, p7_c3, p7_4, p7_c4, rfl, hn8, hb9⟩
 replace hS := hS.call hb9
 replace hS := hS.addR hn8.s1.rd
 replace hS := hS.addR hn8.s2.rd
 replace hS := hS.addR hn8.s3.rd
 replace hS := hS.addR hn8.s4.rd
 refine ⟨_, rfl, ?_⟩
 intro a hA
 refine seq_do hA rfl rfl rfl (d_move rfl) ?_
 intro a hA
 refine seq_do (v := .agg #[.bool z1.1.b1, .slice p7_1 z1.1.t1.length p7_c1, .slice p7_2 z1.1.q1.length p7_c2, .bool z1.1.b2, .slice p7_3 z1.1.t2.length p7_c3, .slice p7_4 z1.1.q2.length p7_c4]) hA rfl rfl rfl (d_extract (vs := [.agg #[.bool z1.1.b1, .slice p7_1 z1.1.t1.length p7_c1, .slice p7_2 z1.1.q1.length p7_c2, .bool z1.1.b2, .slice p7_3 z1.1.t2.length p7_c3, .slice p7_4 z1.1.q2.length p7_c4], .int .i64 z1.2]) rfl rfl) ?_
 intro a hA
 refine seq_do (v := .int .i64 z1.2) hA rfl rfl rfl (d_extract (vs := [.agg #[.bool z1.1.b1, .slice p7_1 z1.1.t1.length p7_c1, .slice p7_2 z1.1.q1.length p7_c2, .bool z1.1.b2, .slice p7_3 z1.1.t2.length p7_c3, .slice p7_4 z1.1.q2.length p7_c4], .int .i64 z1.2]) rfl rfl) ?_
 intro a hA
 refine seq_new (vs := [.bool false, .slice none 0 0, .slice none 0 0, .bool false, .slice none 0 0, .slice none 0 0]) (t := 26) hA hS rfl rfl rfl (fun g => .pointer (some ⟨g, 0, none⟩)) (d_alloc (z := .agg #[.bool false, .slice none 0 0, .slice none 0 0, .bool false, .slice none 0 0, .slice none 0 0]) (by kernel_rfl) rfl) rfl ?_
 intro g11 w12 hS a hA
 refine seq_store (us := [.bool z1.1.b1, .slice p7_1 z1.1.t1.length p7_c1, .slice p7_2 z1.1.q1.length p7_c2, .bool z1.1.b2, .slice p7_3 z1.1.t2.length p7_c3, .slice p7_4 z1.1.q2.length p7_c4]) hA hS rfl rfl (sets_store rfl rfl rfl (by kernel_rfl) hS 0 rfl rfl rfl) 0 rfl rfl rfl rfl ?_
 intro w13 hS
 refine seq_do hA rfl rfl rfl (d_assign rfl) ?_
 intro a hA
 refine seq_end ?_
 refine hK6 _ _ ?_
 refine wp_seq_k (fun K14 hK14 => ?_)
 refine wp_region_lit ?_
 refine seq_do hA rfl rfl rfl (d_loadS hS SmH_isS_26 rfl 2 rfl (cs := [.bool p.b1, .slice a1 p.t1.length ac1, .slice a2 p.q1.length ac2, .bool p.b2, .slice a3 p.t2.length ac3, .slice a4 p.q2.length ac4]) rfl rfl) ?_
 intro a hA
 refine seq_call hA rfl rfl rfl (enters_func  rfl rfl (fun w => by kernel_rfl)) (rfloorQ_as (show Nm _ p a1 ac1 a2 ac2 a3 ac3 a4 ac4 from ⟨⟨(hS.rd 11 rfl), ha.s1.nil, ha.s1.cap⟩, ⟨(hS.rd 10 rfl), ha.s2.nil, ha.s2.cap⟩, ⟨(hS.rd 9 rfl), ha.s3.nil, ha.s3.cap⟩, ⟨(hS.rd 8 rfl), ha.s4.nil, ha.s4.cap⟩⟩) hl e1) ?_
 rintro _ w18 ⟨p15_1, p15_c1, p15_2, p15_c2, p15_3, p15_c3, p15_4, p15_c4, rfl, hn16, hb17⟩
 replace hS := hS.call hb17
 replace hS := hS.addR hn16.s1.rd
 replace hS := hS.addR hn16.s2.rd
 replace hS := hS.addR hn16.s3.rd
 replace hS := hS.addR hn16.s4.rd
 refine ⟨_, rfl, ?_⟩
 intro a hA
 refine seq_do hA rfl rfl rfl (d_move rfl) ?_
 intro a hA
 refine seq_do (v := .agg #[.bool z1.1.b1, .slice p15_1 z1.1.t1.length p15_c1, .slice p15_2 z1.1.q1.length p15_c2, .bool z1.1.b2, .slice p15_3 z1.1.t2.length p15_c3, .slice p15_4 z1.1.q2.length p15_c4]) hA rfl rfl rfl (d_extract (vs := [.agg #[.bool z1.1.b1, .slice p15_1 z1.1.t1.length p15_c1, .slice p15_2 z1.1.q1.length p15_c2, .bool z1.1.b2, .slice p15_3 z1.1.t2.length p15_c3, .slice p15_4 z1.1.q2.length p15_c4], .int .i64 z1.2]) rfl rfl) ?_
 intro a hA
 refine seq_do (v := .int .i64 z1.2) hA rfl rfl rfl (d_extract (vs := [.agg #[.bool z1.1.b1, .slice p15_1 z1.1.t1.length p15_c1, .slice p15_2 z1.1.q1.length p15_c2, .bool z1.1.b2, .slice p15_3 z1.1.t2.length p15_c3, .slice p15_4 z1.1.q2.length p15_c4], .int .i64 z1.2]) rfl rfl) ?_
 intro a hA
 refine seq_new (vs := [.bool false, .slice none 0 0, .slice none 0 0, .bool false, .slice none 0 0, .slice none 0 0]) (t := 26) hA hS rfl rfl rfl (fun g => .pointer (some ⟨g, 0, none⟩)) (d_alloc (z := .agg #[.bool false, .slice none 0 0, .slice none 0 0, .bool false, .slice none 0 0, .slice none 0 0]) (by kernel_rfl) rfl) rfl ?_
 intro g19 w20 hS a hA
 refine seq_store (us := [.bool z1.1.b1, .slice p15_1 z1.1.t1.length p15_c1, .slice p15_2 z1.1.q1.length p15_c2, .bool z1.1.b2, .slice p15_3 z1.1.t2.length p15_c3, .slice p15_4 z1.1.q2.length p15_c4]) hA hS rfl rfl (sets_store rfl rfl rfl (by kernel_rfl) hS 0 rfl rfl rfl) 0 rfl rfl rfl rfl ?_
 intro w21 hS
 refine seq_do hA rfl rfl rfl (d_assign rfl) ?_
 intro a hA
 refine seq_end ?_
 refine hK14 _ _ ?_
 refine wp_seq_k (fun K22 hK22 => ?_)
 refine wp_region_lit ?_
 refine seq_do hA rfl rfl rfl (d_loadS hS SmH_isS_26 rfl 3 rfl (cs := [.bool p.b1, .slice a1 p.t1.length ac1, .slice a2 p.q1.length ac2, .bool p.b2, .slice a3 p.t2.length ac3, .slice a4 p.q2.length ac4]) rfl rfl) ?_
 intro a hA
 refine seq_do hA rfl rfl rfl (d_loadS hS SmH_isS_26 rfl 2 rfl (cs := [.bool q.b1, .slice u1 q.t1.length uc1, .slice u2 q.q1.length uc2, .bool q.b2, .slice u3 q.t2.length uc3, .slice u4 q.q2.length uc4]) rfl rfl) ?_
 intro a hA
 refine seq_call hA rfl rfl rfl (enters_func  rfl rfl (fun w => by kernel_rfl)) (dmQ_at (show Nm _ p a1 ac1 a2 ac2 a3 ac3 a4 ac4 from ⟨⟨(hS.rd 15 rfl), ha.s1.nil, ha.s1.cap⟩, ⟨(hS.rd 14 rfl), ha.s2.nil, ha.s2.cap⟩, ⟨(hS.rd 13 rfl), ha.s3.nil, ha.s3.cap⟩, ⟨(hS.rd 12 rfl), ha.s4.nil, ha.s4.cap⟩⟩) hl (show Nm _ q u1 uc1 u2 uc2 u3 uc3 u4 uc4 from ⟨⟨(hS.rd 11 rfl), hb.s1.nil, hb.s1.cap⟩, ⟨(hS.rd 10 rfl), hb.s2.nil, hb.s2.cap⟩, ⟨(hS.rd 9 rfl), hb.s3.nil, hb.s3.cap⟩, ⟨(hS.rd 8 rfl), hb.s4.nil, hb.s4.cap⟩⟩) hm et) ?_
 rintro _ w28 ⟨p23_1, p23_c1, p23_2, p23_c2, p23_3, p23_c3, p23_4, p23_c4, p24_1, p24_c1, p24_2, p24_c2, p24_3, p24_c3, p24_4, p24_c4, rfl, hn25, hn26, hb27⟩
 replace hS := hS.call hb27
 replace hS := hS.addR hn25.s1.rd
 replace hS := hS.addR hn25.s2.rd
 replace hS := hS.addR hn25.s3.rd
 replace hS := hS.addR hn25.s4.rd
 replace hS := hS.addR hn26.s1.rd
 replace hS := hS.addR hn26.s2.rd
 replace hS := hS.addR hn26.s3.rd
 replace hS := hS.addR hn26.s4.rd
 refine ⟨_, rfl, ?_⟩
 intro a hA
 refine seq_do hA rfl rfl rfl (d_move rfl) ?_
 intro a hA
 refine seq_do (v := .agg #[.bool t.1.b1, .slice p23_1 t.1.t1.length p23_c1, .slice p23_2 t.1.q1.length p23_c2, .bool t.1.b2, .slice p23_3 t.1.t2.length p23_c3, .slice p23_4 t.1.q2.length p23_c4]) hA rfl rfl rfl (d_extract (vs := [.agg #[.bool t.1.b1, .slice p23_1 t.1.t1.length p23_c1, .slice p23_2 t.1.q1.length p23_c2, .bool t.1.b2, .slice p23_3 t.1.t2.length p23_c3, .slice p23_4 t.1.q2.length p23_c4], .agg #[.bool t.2.1.b1, .slice p24_1 t.2.1.t1.length p24_c1, .slice p24_2 t.2.1.q1.length p24_c2, .bool t.2.1.b2, .slice p24_3 t.2.1.t2.length p24_c3, .slice p24_4 t.2.1.q2.length p24_c4], .int .i64 t.2.2]) rfl rfl) ?_
 intro a hA
 refine seq_do (v := .agg #[.bool t.2.1.b1, .slice p24_1 t.2.1.t1.length p24_c1, .slice p24_2 t.2.1.q1.length p24_c2, .bool t.2.1.b2, .slice p24_3 t.2.1.t2.length p24_c3, .slice p24_4 t.2.1.q2.length p24_c4]) hA rfl rfl rfl (d_extract (vs := [.agg #[.bool t.1.b1, .slice p23_1 t.1.t1.length p23_c1, .slice p23_2 t.1.q1.length p23_c2, .bool t.1.b2, .slice p23_3 t.1.t2.length p23_c3, .slice p23_4 t.1.q2.length p23_c4], .agg #[.bool t.2.1.b1, .slice p24_1 t.2.1.t1.length p24_c1, .slice p24_2 t.2.1.q1.length p24_c2, .bool t.2.1.b2, .slice p24_3 t.2.1.t2.length p24_c3, .slice p24_4 t.2.1.q2.length p24_c4], .int .i64 t.2.2]) rfl rfl) ?_
 intro a hA
 refine seq_do (v := .int .i64 t.2.2) hA rfl rfl rfl (d_extract (vs := [.agg #[.bool t.1.b1, .slice p23_1 t.1.t1.length p23_c1, .slice p23_2 t.1.q1.length p23_c2, .bool t.1.b2, .slice p23_3 t.1.t2.length p23_c3, .slice p23_4 t.1.q2.length p23_c4], .agg #[.bool t.2.1.b1, .slice p24_1 t.2.1.t1.length p24_c1, .slice p24_2 t.2.1.q1.length p24_c2, .bool t.2.1.b2, .slice p24_3 t.2.1.t2.length p24_c3, .slice p24_4 t.2.1.q2.length p24_c4], .int .i64 t.2.2]) rfl rfl) ?_
 intro a hA
 refine seq_new (vs := [.bool false, .slice none 0 0, .slice none 0 0, .bool false, .slice none 0 0, .slice none 0 0]) (t := 26) hA hS rfl rfl rfl (fun g => .pointer (some ⟨g, 0, none⟩)) (d_alloc (z := .agg #[.bool false, .slice none 0 0, .slice none 0 0, .bool false, .slice none 0 0, .slice none 0 0]) (by kernel_rfl) rfl) rfl ?_
 intro g29 w30 hS a hA
 refine seq_new (vs := [.bool false, .slice none 0 0, .slice none 0 0, .bool false, .slice none 0 0, .slice none 0 0]) (t := 26) hA hS rfl rfl rfl (fun g => .pointer (some ⟨g, 0, none⟩)) (d_alloc (z := .agg #[.bool false, .slice none 0 0, .slice none 0 0, .bool false, .slice none 0 0, .slice none 0 0]) (by kernel_rfl) rfl) rfl ?_
 intro g31 w32 hS a hA
 refine seq_store (us := [.bool t.1.b1, .slice p23_1 t.1.t1.length p23_c1, .slice p23_2 t.1.q1.length p23_c2, .bool t.1.b2, .slice p23_3 t.1.t2.length p23_c3, .slice p23_4 t.1.q2.length p23_c4]) hA hS rfl rfl (sets_store rfl rfl rfl (by kernel_rfl) hS 1 rfl rfl rfl) 1 rfl rfl rfl rfl ?_
 intro w33 hS
 refine seq_store (us := [.bool t.2.1.b1, .slice p24_1 t.2.1.t1.length p24_c1, .slice p24_2 t.2.1.q1.length p24_c2, .bool t.2.1.b2, .slice p24_3 t.2.1.t2.length p24_c3, .slice p24_4 t.2.1.q2.length p24_c4]) hA hS rfl rfl (sets_store rfl rfl rfl (by kernel_rfl) hS 0 rfl rfl rfl) 0 rfl rfl rfl rfl ?_
 intro w34 hS
 refine seq_do hA rfl rfl rfl (d_assign rfl) ?_
 intro a hA
 refine seq_end ?_
 refine hK22 _ _ ?_
 refine wp_seq_k (fun K35 hK35 => ?_)
 refine wp_region_lit ?_
 refine seq_do hA rfl rfl rfl (d_loadS hS SmH_isS_26 rfl 5 rfl (cs := [.bool p.b1, .slice a1 p.t1.length ac1, .slice a2 p.q1.length ac2, .bool p.b2, .slice a3 p.t2.length ac3, .slice a4 p.q2.length ac4]) rfl rfl) ?_
 intro a hA
 refine seq_do hA rfl rfl rfl (d_loadS hS SmH_isS_26 rfl 4 rfl (cs := [.bool q.b1, .slice u1 q.t1.length uc1, .slice u2 q.q1.length uc2, .bool q.b2, .slice u3 q.t2.length uc3, .slice u4 q.q2.length uc4]) rfl rfl) ?_
 intro a hA
 refine seq_call hA rfl rfl rfl (enters_func  rfl rfl (fun w => by kernel_rfl)) (rdmQ_at (show Nm _ p a1 ac1 a2 ac2 a3 ac3 a4 ac4 from ⟨⟨(hS.rd 23 rfl), ha.s1.nil, ha.s1.cap⟩, ⟨(hS.rd 22 rfl), ha.s2.nil, ha.s2.cap⟩, ⟨(hS.rd 21 rfl), ha.s3.nil, ha.s3.cap⟩, ⟨(hS.rd 20 rfl), ha.s4.nil, ha.s4.cap⟩⟩) hl (show Nm _ q u1 uc1 u2 uc2 u3 uc3 u4 uc4 from ⟨⟨(hS.rd 19 rfl), hb.s1.nil, hb.s1.cap⟩, ⟨(hS.rd 18 rfl), hb.s2.nil, hb.s2.cap⟩, ⟨(hS.rd 17 rfl), hb.s3.nil, hb.s3.cap⟩, ⟨(hS.rd 16 rfl), hb.s4.nil, hb.s4.cap⟩⟩) hm et) ?_
 rintro _ w41 ⟨p36_1, p36_c1, p36_2, p36_c2, p36_3, p36_c3, p36_4, p36_c4, p37_1, p37_c1, p37_2, p37_c2, p37_3, p37_c3, p37_4, p37_c4, rfl, hn38, hn39, hb40⟩
 replace hS := hS.call hb40
 replace hS := hS.addR hn38.s1.rd
 replace hS := hS.addR hn38.s2.rd
 replace hS := hS.addR hn38.s3.rd
 replace hS := hS.addR hn38.s4.rd
 replace hS := hS.addR hn39.s1.rd
 replace hS := hS.addR hn39.s2.rd
 replace hS := hS.addR hn39.s3.rd
 replace hS := hS.addR hn39.s4.rd
 refine ⟨_, rfl, ?_⟩
 intro a hA
 refine seq_do hA rfl rfl rfl (d_move rfl) ?_
 intro a hA
 refine seq_do (v := .agg #[.bool t.1.b1, .slice p36_1 t.1.t1.length p36_c1, .slice p36_2 t.1.q1.length p36_c2, .bool t.1.b2, .slice p36_3 t.1.t2.length p36_c3, .slice p36_4 t.1.q2.length p36_c4]) hA rfl rfl rfl (d_extract (vs := [.agg #[.bool t.1.b1, .slice p36_1 t.1.t1.length p36_c1, .slice p36_2 t.1.q1.length p36_c2, .bool t.1.b2, .slice p36_3 t.1.t2.length p36_c3, .slice p36_4 t.1.q2.length p36_c4], .agg #[.bool t.2.1.b1, .slice p37_1 t.2.1.t1.length p37_c1, .slice p37_2 t.2.1.q1.length p37_c2, .bool t.2.1.b2, .slice p37_3 t.2.1.t2.length p37_c3, .slice p37_4 t.2.1.q2.length p37_c4], .int .i64 t.2.2]) rfl rfl) ?_
 intro a hA
 refine seq_do (v := .agg #[.bool t.2.1.b1, .slice p37_1 t.2.1.t1.length p37_c1, .slice p37_2 t.2.1.q1.length p37_c2, .bool t.2.1.b2, .slice p37_3 t.2.1.t2.length p37_c3, .slice p37_4 t.2.1.q2.length p37_c4]) hA rfl rfl rfl (d_extract (vs := [.agg #[.bool t.1.b1, .slice p36_1 t.1.t1.length p36_c1, .slice p36_2 t.1.q1.length p36_c2, .bool t.1.b2, .slice p36_3 t.1.t2.length p36_c3, .slice p36_4 t.1.q2.length p36_c4], .agg #[.bool t.2.1.b1, .slice p37_1 t.2.1.t1.length p37_c1, .slice p37_2 t.2.1.q1.length p37_c2, .bool t.2.1.b2, .slice p37_3 t.2.1.t2.length p37_c3, .slice p37_4 t.2.1.q2.length p37_c4], .int .i64 t.2.2]) rfl rfl) ?_
 intro a hA
 refine seq_do (v := .int .i64 t.2.2) hA rfl rfl rfl (d_extract (vs := [.agg #[.bool t.1.b1, .slice p36_1 t.1.t1.length p36_c1, .slice p36_2 t.1.q1.length p36_c2, .bool t.1.b2, .slice p36_3 t.1.t2.length p36_c3, .slice p36_4 t.1.q2.length p36_c4], .agg #[.bool t.2.1.b1, .slice p37_1 t.2.1.t1.length p37_c1, .slice p37_2 t.2.1.q1.length p37_c2, .bool t.2.1.b2, .slice p37_3 t.2.1.t2.length p37_c3, .slice p37_4 t.2.1.q2.length p37_c4], .int .i64 t.2.2]) rfl rfl) ?_
 intro a hA
 refine seq_new (vs := [.bool false, .slice none 0 0, .slice none 0 0, .bool false, .slice none 0 0, .slice none 0 0]) (t := 26) hA hS rfl rfl rfl (fun g => .pointer (some ⟨g, 0, none⟩)) (d_alloc (z := .agg #[.bool false, .slice none 0 0, .slice none 0 0, .bool false, .slice none 0 0, .slice none 0 0]) (by kernel_rfl) rfl) rfl ?_
 intro g42 w43 hS a hA
 refine seq_new (vs := [.bool false, .slice none 0 0, .slice none 0 0, .bool false, .slice none 0 0, .slice none 0 0]) (t := 26) hA hS rfl rfl rfl (fun g => .pointer (some ⟨g, 0, none⟩)) (d_alloc (z := .agg #[.bool false, .slice none 0 0, .slice none 0 0, .bool false, .slice none 0 0, .slice none 0 0]) (by kernel_rfl) rfl) rfl ?_
 intro g44 w45 hS a hA
 refine seq_store (us := [.bool t.1.b1, .slice p36_1 t.1.t1.length p36_c1, .slice p36_2 t.1.q1.length p36_c2, .bool t.1.b2, .slice p36_3 t.1.t2.length p36_c3, .slice p36_4 t.1.q2.length p36_c4]) hA hS rfl rfl (sets_store rfl rfl rfl (by kernel_rfl) hS 1 rfl rfl rfl) 1 rfl rfl rfl rfl ?_
 intro w46 hS
 refine seq_store (us := [.bool t.2.1.b1, .slice p37_1 t.2.1.t1.length p37_c1, .slice p37_2 t.2.1.q1.length p37_c2, .bool t.2.1.b2, .slice p37_3 t.2.1.t2.length p37_c3, .slice p37_4 t.2.1.q2.length p37_c4]) hA hS rfl rfl (sets_store rfl rfl rfl (by kernel_rfl) hS 0 rfl rfl rfl) 0 rfl rfl rfl rfl ?_
 intro w47 hS
 refine seq_do hA rfl rfl rfl (d_assign rfl) ?_
 intro a hA
 refine seq_end ?_
 refine hK35 _ _ ?_
 refine wp_seq_k (fun K48 hK48 => ?_)
 refine wp_region_lit ?_
 refine seq_call hA rfl rfl rfl (enters_func  rfl rfl (fun w => by kernel_rfl)) (awake3_any) ?_
 rintro _ w50 ⟨rfl, hb49⟩
 replace hS := hS.call hb49
 refine ⟨_, rfl, ?_⟩
 intro a hA
 refine seq_do hA rfl rfl rfl (d_move rfl) ?_
 intro a hA
 refine seq_do hA rfl rfl rfl (d_loadS hS SmH_isS_26 rfl 5 rfl (cs := [.bool z1.1.b1, .slice p7_1 z1.1.t1.length p7_c1, .slice p7_2 z1.1.q1.length p7_c2, .bool z1.1.b2, .slice p7_3 z1.1.t2.length p7_c3, .slice p7_4 z1.1.q2.length p7_c4]) rfl rfl) ?_
 intro a hA
 refine seq_do hA rfl rfl rfl (d_loadS hS SmH_isS_26 rfl 4 rfl (cs := [.bool z1.1.b1, .slice p15_1 z1.1.t1.length p15_c1, .slice p15_2 z1.1.q1.length p15_c2, .bool z1.1.b2, .slice p15_3 z1.1.t2.length p15_c3, .slice p15_4 z1.1.q2.length p15_c4]) rfl rfl) ?_
 intro a hA
 refine seq_call hA rfl rfl rfl (enters_func  rfl rfl (fun w => by kernel_rfl)) (alike_any (show Nm _ z1.1 p7_1 p7_c1 p7_2 p7_c2 p7_3 p7_c3 p7_4 p7_c4 from ⟨⟨(hS.rd 23 rfl), hn8.s1.nil, hn8.s1.cap⟩, ⟨(hS.rd 22 rfl), hn8.s2.nil, hn8.s2.cap⟩, ⟨(hS.rd 21 rfl), hn8.s3.nil, hn8.s3.cap⟩, ⟨(hS.rd 20 rfl), hn8.s4.nil, hn8.s4.cap⟩⟩) l1 ⟨⟨(hS.rd 19 rfl), hn16.s1.nil, hn16.s1.cap⟩, ⟨(hS.rd 18 rfl), hn16.s2.nil, hn16.s2.cap⟩, ⟨(hS.rd 17 rfl), hn16.s3.nil, hn16.s3.cap⟩, ⟨(hS.rd 16 rfl), hn16.s4.nil, hn16.s4.cap⟩⟩) ?_
 rintro _ w52 ⟨rfl, hb51⟩
 replace hS := hS.call hb51
 refine ⟨_, rfl, ?_⟩
 intro a hA
 refine seq_do (v := .bool true) hA rfl rfl rfl (d_pick rfl rfl rfl rfl) ?_
 intro a hA
 refine seq_do hA rfl rfl rfl (d_move rfl) ?_
 intro a hA
 refine seq_do hA rfl rfl rfl (d_move rfl) ?_
 intro a hA
 refine seq_do hA rfl rfl rfl (d_move rfl) ?_
 intro a hA
 refine seq_do (v := .bool true) hA rfl rfl rfl (d_bin rfl rfl (fun w => (bin_eql w).trans (by rw [show ((z1.2 == z1.2)) = true from (beq_self_eq_true _)]))) ?_
 intro a hA
 refine seq_do (v := .bool true) hA rfl rfl rfl (d_pick rfl rfl rfl rfl) ?_
 intro a hA
 refine seq_do hA rfl rfl rfl (d_move rfl) ?_
 intro a hA
 refine seq_do hA rfl rfl rfl (d_loadS hS SmH_isS_26 rfl 3 rfl (cs := [.bool t.1.b1, .slice p23_1 t.1.t1.length p23_c1, .slice p23_2 t.1.q1.length p23_c2, .bool t.1.b2, .slice p23_3 t.1.t2.length p23_c3, .slice p23_4 t.1.q2.length p23_c4]) rfl rfl) ?_
 intro a hA
 refine seq_do hA rfl rfl rfl (d_loadS hS SmH_isS_26 rfl 1 rfl (cs := [.bool t.1.b1, .slice p36_1 t.1.t1.length p36_c1, .slice p36_2 t.1.q1.length p36_c2, .bool t.1.b2, .slice p36_3 t.1.t2.length p36_c3, .slice p36_4 t.1.q2.length p36_c4]) rfl rfl) ?_
 intro a hA
 refine seq_call hA rfl rfl rfl (enters_func  rfl rfl (fun w => by kernel_rfl)) (alike_any (show Nm _ t.1 p23_1 p23_c1 p23_2 p23_c2 p23_3 p23_c3 p23_4 p23_c4 from ⟨⟨(hS.rd 15 rfl), hn25.s1.nil, hn25.s1.cap⟩, ⟨(hS.rd 14 rfl), hn25.s2.nil, hn25.s2.cap⟩, ⟨(hS.rd 13 rfl), hn25.s3.nil, hn25.s3.cap⟩, ⟨(hS.rd 12 rfl), hn25.s4.nil, hn25.s4.cap⟩⟩) lt1 ⟨⟨(hS.rd 7 rfl), hn38.s1.nil, hn38.s1.cap⟩, ⟨(hS.rd 6 rfl), hn38.s2.nil, hn38.s2.cap⟩, ⟨(hS.rd 5 rfl), hn38.s3.nil, hn38.s3.cap⟩, ⟨(hS.rd 4 rfl), hn38.s4.nil, hn38.s4.cap⟩⟩) ?_
 rintro _ w54 ⟨rfl, hb53⟩
 replace hS := hS.call hb53
 refine ⟨_, rfl, ?_⟩
 intro a hA
 refine seq_do (v := .bool true) hA rfl rfl rfl (d_pick rfl rfl rfl rfl) ?_
 intro a hA
 refine seq_do hA rfl rfl rfl (d_move rfl) ?_
 intro a hA
 refine seq_do hA rfl rfl rfl (d_loadS hS SmH_isS_26 rfl 2 rfl (cs := [.bool t.2.1.b1, .slice p24_1 t.2.1.t1.length p24_c1, .slice p24_2 t.2.1.q1.length p24_c2, .bool t.2.1.b2, .slice p24_3 t.2.1.t2.length p24_c3, .slice p24_4 t.2.1.q2.length p24_c4]) rfl rfl) ?_
 intro a hA
 refine seq_do hA rfl rfl rfl (d_loadS hS SmH_isS_26 rfl 0 rfl (cs := [.bool t.2.1.b1, .slice p37_1 t.2.1.t1.length p37_c1, .slice p37_2 t.2.1.q1.length p37_c2, .bool t.2.1.b2, .slice p37_3 t.2.1.t2.length p37_c3, .slice p37_4 t.2.1.q2.length p37_c4]) rfl rfl) ?_
 intro a hA
 refine seq_call hA rfl rfl rfl (enters_func  rfl rfl (fun w => by kernel_rfl)) (alike_any (show Nm _ t.2.1 p24_1 p24_c1 p24_2 p24_c2 p24_3 p24_c3 p24_4 p24_c4 from ⟨⟨(hS.rd 11 rfl), hn26.s1.nil, hn26.s1.cap⟩, ⟨(hS.rd 10 rfl), hn26.s2.nil, hn26.s2.cap⟩, ⟨(hS.rd 9 rfl), hn26.s3.nil, hn26.s3.cap⟩, ⟨(hS.rd 8 rfl), hn26.s4.nil, hn26.s4.cap⟩⟩) lt2 ⟨⟨(hS.rd 3 rfl), hn39.s1.nil, hn39.s1.cap⟩, ⟨(hS.rd 2 rfl), hn39.s2.nil, hn39.s2.cap⟩, ⟨(hS.rd 1 rfl), hn39.s3.nil, hn39.s3.cap⟩, ⟨(hS.rd 0 rfl), hn39.s4.nil, hn39.s4.cap⟩⟩) ?_
 rintro _ w56 ⟨rfl, hb55⟩
 replace hS := hS.call hb55
 refine ⟨_, rfl, ?_⟩
 intro a hA
 refine seq_do (v := .bool true) hA rfl rfl rfl (d_pick rfl rfl rfl rfl) ?_
 intro a hA
 refine seq_do hA rfl rfl rfl (d_move rfl) ?_
 intro a hA
 refine seq_do hA rfl rfl rfl (d_move rfl) ?_
 intro a hA
 refine seq_do hA rfl rfl rfl (d_move rfl) ?_
 intro a hA
 refine seq_do (v := .bool true) hA rfl rfl rfl (d_bin rfl rfl (fun w => (bin_eql w).trans (by rw [show ((t.2.2 == t.2.2)) = true from (beq_self_eq_true _)]))) ?_
 intro a hA
 refine seq_do (v := .bool true) hA rfl rfl rfl (d_pick rfl rfl rfl rfl) ?_
 intro a hA
 refine seq_do hA rfl rfl rfl (d_assign rfl) ?_
 intro a hA
 refine seq_end ?_
 refine hK48 _ _ ?_
 refine wp_ret ?_
 refine hret _ _ ?_
 refine ends (v := .bool true) hA rfl (.cons (res_tmp rfl) .nil) rfl ?_
 exact ⟨rfl, hS.bel⟩
theorem exactWholes_any {w : World} {p q : Q6} {a1 a2 a3 a4 : Option Addr} {ac1 ac2 ac3 ac4 : Nat} (ha : Nm w p a1 ac1 a2 ac2 a3 ac3 a4 ac4) (hl : LenQ p) {u1 u2 u3 u4 : Option Addr} {uc1 uc2 uc3 uc4 : Nat} (hb : Nm w q u1 uc1 u2 uc2 u3 uc3 u4 uc4) (hm : LenQ q) : Calls Tryz.prog 4 #[numV p a1 ac1 a2 ac2 a3 ac3 a4 ac4, numV q u1 uc1 u2 uc2 u3 uc3 u4 uc4] w fun e w' => e = .returned (.bool true) ∧ Below w.heap.size w w' := wholesW_any ha hl hb hm rfl (lenQ_floor _) rfl (lenQ_dm _ _).1 (lenQ_dm _ _).2
end Go.Proofs.YthlkbnhbmfmchaaGreat
namespace Go.Proofs.YthlkbnhbmfmchaaGreat
open Go.ChangeShapes Go.WideShapes Go.ChangeAt Go.RowKit Go.Joins Go.Deep
set_option linter.unusedVariables false
set_option linter.unusedSimpArgs false
set_option maxRecDepth 100000

section
variable {H : Type} {enc : TypeId × Value → H} {W : World}
theorem trod_bool {fuel : Nat} {v : Value} {x : DataW H × List MemPlace} (h : DataW.trod enc Tryz.prog W 0 (fun _ => true) true fuel 4 [v] = some x) : ∃ b, v = .bool b := by
  obtain ⟨b, h, _⟩ := DataW.trod_bool Tryz.underlying4 h
  exact ⟨b, by simpa using h⟩
theorem trod_words {fuel : Nat} {v : Value} {x : DataW H × List MemPlace} (h : DataW.trod enc Tryz.prog W 0 (fun _ => true) true fuel 22 [v] = some x) : ∃ ao c l, v = .slice ao l.length c ∧ Arg W ao c l := by
  rcases open_ints Tryz.underlying22 Tryz.underlying66 (by kernel_rfl) h with ⟨hcs, _⟩ | ⟨x, l, c, zs, hcs, _, hl, hm, hz, hx, hcell, hwz⟩
  · cases hcs
    exact ⟨none, 0, [], rfl, arg_nil W⟩
  · cases hcs
    obtain ⟨us, e, ha⟩ := arg_row hl hm (by simpa using hz) hcell hwz
    subst e
    exact ⟨_, _, us, rfl, ha⟩
theorem trod_rat {fuel : Nat} {v0 v1 v2 : Value} {x : DataW H × List MemPlace} (h : DataW.trod enc Tryz.prog W 0 (fun _ => true) true fuel 24 [v0, v1, v2] = some x) : ∃ b o1 c1 l1 o2 c2 l2, v0 = .bool b ∧ v1 = .slice o1 l1.length c1 ∧ v2 = .slice o2 l2.length c2 ∧ Arg W o1 c1 l1 ∧ Arg W o2 c2 l2 := by
  obtain ⟨y0, y1, y2, n, _, _, h0, h1, h2⟩ := trod_struct3 Tryz.underlying24 h
  have e0 : Tryz.prog.cellsOf 4 = 1 := by kernel_rfl
  have e1 : Tryz.prog.cellsOf 22 = 1 := by kernel_rfl
  simp only [e0, e1, List.drop_zero, List.take_succ_cons, List.take_zero, List.drop_succ_cons] at h0 h1 h2
  obtain ⟨b, rfl⟩ := trod_bool h0
  obtain ⟨o1, c1, l1, rfl, a1⟩ := trod_words h1
  obtain ⟨o2, c2, l2, rfl, a2⟩ := trod_words h2
  exact ⟨b, o1, c1, l1, o2, c2, l2, rfl, rfl, rfl, a1, a2⟩
theorem open_num {base : Nat} {v : Value} {d : DataW H} {p : List MemPlace} (hv : Value.okWide Tryz.prog W .any base 26 v) (h : DataW.Trod enc Tryz.prog W 0 (fun _ => true) true 26 v d p) :
    ∃ q o1 c1 o2 c2 o3 c3 o4 c4, v = numV q o1 c1 o2 c2 o3 c3 o4 c4 ∧ Nm W q o1 c1 o2 c2 o3 c3 o4 c4 ∧ LenQ q := by
  obtain ⟨cs, rfl, hsz⟩ := okWide_struct Tryz.underlying26 hv
  rw [show Tryz.prog.cellsOf 26 = 6 from by kernel_rfl] at hsz
  obtain ⟨cs⟩ := cs
  match cs, hsz with
  | [v0, v1, v2, v3, v4, v5], _ =>
    obtain ⟨fuel, hf⟩ := h
    obtain ⟨y0, y1, n, _, _, h0, h1⟩ := trod_struct2 Tryz.underlying26 hf
    have e : Tryz.prog.cellsOf 24 = 3 := by kernel_rfl
    simp only [Value.cells, e, List.drop_zero, List.take_succ_cons, List.take_zero, List.drop_succ_cons] at h0 h1
    obtain ⟨b1, o1, c1, l1, o2, c2, l2, rfl, rfl, rfl, a1, a2⟩ := trod_rat h0
    obtain ⟨b2, o3, c3, l3, o4, c4, l4, rfl, rfl, rfl, a3, a4⟩ := trod_rat h1
    exact ⟨⟨b1, l1, l2, b2, l3, l4⟩, o1, c1, o2, c2, o3, c3, o4, c4, rfl, ⟨⟨a1.rd, a1.nil, a1.caps⟩, ⟨a2.rd, a2.nil, a2.caps⟩, ⟨a3.rd, a3.nil, a3.caps⟩, ⟨a4.rd, a4.nil, a4.caps⟩⟩, ⟨a1.len, a2.len, a3.len, a4.len⟩⟩
end
end Go.Proofs.YthlkbnhbmfmchaaGreat
