/- Walks of the law of the order. Numbers that come in as arguments. -/
import Derived.Test.YtmibkfihcihphaaPexacto10d
import Derived.Test.YtmibkfihcihphaaPexacto10a
import Derived.Test.YtmibkfihcihphaaArgs
import Derived.WalkKit
import Derived.ProofKit
import Derived.OpenShut
import Derived.ChangeOld
import Derived.Lib.SmallJoins
import Derived.Deep.Strs
namespace Go.Proofs.Ytmibkfihcihphaa
open Go.RowKit
set_option linter.unusedVariables false
set_option linter.unusedSimpArgs false
set_option maxRecDepth 100000
theorem ExT_isS_26 : IsS Try.prog 26 6 := ⟨⟨_, Try.underlying26⟩, by kernel_rfl⟩
theorem cmpQ_as {w : World} {p q : Q6} {a1 a2 a3 a4 : Option Addr} {ac1 ac2 ac3 ac4 : Nat} (ha : Nm w p a1 ac1 a2 ac2 a3 ac3 a4 ac4) (hl : LenQ p) {u1 u2 u3 u4 : Option Addr} {uc1 uc2 uc3 uc4 : Nat} (hb : Nm w q u1 uc1 u2 uc2 u3 uc3 u4 uc4) (hm : LenQ q) {c : Int × Int} (hc : cmpQ p q = c) : Calls Try.prog 7 #[numV p a1 ac1 a2 ac2 a3 ac3 a4 ac4, numV q u1 uc1 u2 uc2 u3 uc3 u4 uc4] w fun e w' => e = .returned (.tuple #[.int .i64 c.1, .int .i64 c.2]) ∧ Below w.heap.size w w' := by
  subst hc
  exact cmpQ_any ha hl hb hm
theorem dmQ_as {w : World} {p q : Q6} {a1 a2 a3 a4 : Option Addr} {ac1 ac2 ac3 ac4 : Nat} (ha : Nm w p a1 ac1 a2 ac2 a3 ac3 a4 ac4) (hl : LenQ p) {u1 u2 u3 u4 : Option Addr} {uc1 uc2 uc3 uc4 : Nat} (hb : Nm w q u1 uc1 u2 uc2 u3 uc3 u4 uc4) (hm : LenQ q) {t : Q6 × Q6 × Int} (ht : dmQ p q = t) : Calls Try.prog 10 #[numV p a1 ac1 a2 ac2 a3 ac3 a4 ac4, numV q u1 uc1 u2 uc2 u3 uc3 u4 uc4] w (AnsNN w t) := by
  subst ht
  exact dmQ_any ha hl hb hm
set_option maxHeartbeats 2000000 in
theorem orderW_any {w : World} {p q r : Q6} {a1 a2 a3 a4 : Option Addr} {ac1 ac2 ac3 ac4 : Nat} (ha : Nm w p a1 ac1 a2 ac2 a3 ac3 a4 ac4) {u1 u2 u3 u4 : Option Addr} {uc1 uc2 uc3 uc4 : Nat} (hb : Nm w q u1 uc1 u2 uc2 u3 uc3 u4 uc4) {y1 y2 y3 y4 : Option Addr} {yc1 yc2 yc3 yc4 : Nat} (hc : Nm w r y1 yc1 y2 yc2 y3 yc3 y4 yc4) (hl : LenQ p) (hm : LenQ q) (ho : LenQ r) {t : Q6 × Q6 × Int} {z1 z2 z3 z4 z5 : Q6 × Int} (dt : dmQ p q = t) (lt1 : LenQ t.1) (lt2 : LenQ t.2.1) (e1 : addQ p r = z1) (l1 : LenQ z1.1) (e2 : addQ q r = z2) (l2 : LenQ z2.1) (e3 : mulQ t.1 q = z3) (l3 : LenQ z3.1) (e4 : addQ z3.1 t.2.1 = z4) (l4 : LenQ z4.1) (e5 : subQ (Q6.whole false 0) q = z5) (l5 : LenQ z5.1) {c1 : Int × Int} (d1 : cmpQ p q = c1) {c2 : Int × Int} (d2 : cmpQ q p = c2) {c3 : Int × Int} (d3 : cmpQ z1.1 z2.1 = c3) {c4 : Int × Int} (d4 : cmpQ t.2.1 (Q6.whole false 0) = c4) {c5 : Int × Int} (d5 : cmpQ q (Q6.whole false 0) = c5) {c6 : Int × Int} (d6 : cmpQ t.2.1 z5.1 = c6) {c7 : Int × Int} (d7 : cmpQ t.2.1 q = c7) (hF1 : c1.1 = -c2.1) (hF2 : c1.2 = c2.2) (hb1 : -1 ≤ c2.1) (hb2 : c2.1 ≤ 1) (hF3 : c1.2 = 0 → z1.2 = 0 → z2.2 = 0 → c3.2 = 0 → c3.1 = c1.1) (hF4 : t.2.2 = 0 → (z3.2 = 0 → z4.2 = 0 → sameQ z4.1 p = true) ∧ wholeQ t.1 = true ∧ c4.2 = 0 ∧ 0 ≤ c4.1 ∧ c5.2 = 0 ∧ (c5.1 < 0 → c6.2 = 0 ∧ c6.1 < 0) ∧ (¬ c5.1 < 0 → c7.2 = 0 ∧ c7.1 < 0)) : Calls Try.prog 3 #[numV p a1 ac1 a2 ac2 a3 ac3 a4 ac4, numV q u1 uc1 u2 uc2 u3 uc3 u4 uc4, numV r y1 yc1 y2 yc2 y3 yc3 y4 yc4] w fun e w' => e = .returned (.bool true) ∧ Below w.heap.size w w' := by
  have hS : St w w [] [(y4, r.q2), (y3, r.t2), (y2, r.q1), (y1, r.t1), (u4, q.q2), (u3, q.t2), (u2, q.q1), (u1, q.t1), (a4, p.q2), (a3, p.t2), (a2, p.q1), (a1, p.t1)] [] := ((((((((((((St.start w).addR ha.s1.rd).addR ha.s2.rd).addR ha.s3.rd).addR ha.s4.rd).addR hb.s1.rd).addR hb.s2.rd).addR hb.s3.rd).addR hb.s4.rd).addR hc.s1.rd).addR hc.s2.rd).addR hc.s3.rd).addR hc.s4.rd
  refine walk_of (l := [(0, .agg #[.bool p.b1, .slice a1 p.t1.length ac1, .slice a2 p.q1.length ac2, .bool p.b2, .slice a3 p.t2.length ac3, .slice a4 p.q2.length ac4]), (1, .agg #[.bool q.b1, .slice u1 q.t1.length uc1, .slice u2 q.q1.length uc2, .bool q.b2, .slice u3 q.t2.length uc3, .slice u4 q.q2.length uc4]), (2, .agg #[.bool r.b1, .slice y1 r.t1.length yc1, .slice y2 r.q1.length yc2, .bool r.b2, .slice y3 r.t2.length yc3, .slice y4 r.q2.length yc4])]) Try.func3 rfl Try.ntmps3 rfl rfl ?_
  intro Q hret hnorm hP a hA
  refine wp_seq_k (fun K1 hK1 => ?_)
  refine wp_region_lit ?_
  refine seq_new (vs := [.bool p.b1, .slice a1 p.t1.length ac1, .slice a2 p.q1.length ac2, .bool p.b2, .slice a3 p.t2.length ac3, .slice a4 p.q2.length ac4]) (t := 26) hA hS rfl rfl rfl (fun g => .pointer (some ⟨g, 0, none⟩)) (does_box rfl rfl) rfl ?_
  intro g2 w3 hS a hA
  refine seq_new (vs := [.bool q.b1, .slice u1 q.t1.length uc1, .slice u2 q.q1.length uc2, .bool q.b2, .slice u3 q.t2.length uc3, .slice u4 q.q2.length uc4]) (t := 26) hA hS rfl rfl rfl (fun g => .pointer (some ⟨g, 0, none⟩)) (does_box rfl rfl) rfl ?_
  intro g4 w5 hS a hA
  refine seq_new (vs := [.bool r.b1, .slice y1 r.t1.length yc1, .slice y2 r.q1.length yc2, .bool r.b2, .slice y3 r.t2.length yc3, .slice y4 r.q2.length yc4]) (t := 26) hA hS rfl rfl rfl (fun g => .pointer (some ⟨g, 0, none⟩)) (does_box rfl rfl) rfl ?_
  intro g6 w7 hS a hA
  refine seq_do hA rfl rfl rfl (does_assign rfl) ?_
  intro a hA
  refine seq_end ?_
  refine hK1 _ _ ?_
  refine wp_seq_k (fun K8 hK8 => ?_)
  refine wp_region_lit ?_
  refine seq_do (v := .agg #[.bool p.b1, .slice a1 p.t1.length ac1, .slice a2 p.q1.length ac2, .bool p.b2, .slice a3 p.t2.length ac3, .slice a4 p.q2.length ac4]) hA rfl rfl rfl (does_loadS hS ExT_isS_26 rfl 2 rfl (cs := [.bool p.b1, .slice a1 p.t1.length ac1, .slice a2 p.q1.length ac2, .bool p.b2, .slice a3 p.t2.length ac3, .slice a4 p.q2.length ac4]) rfl rfl) ?_
  intro a hA
  refine seq_do (v := .agg #[.bool q.b1, .slice u1 q.t1.length uc1, .slice u2 q.q1.length uc2, .bool q.b2, .slice u3 q.t2.length uc3, .slice u4 q.q2.length uc4]) hA rfl rfl rfl (does_loadS hS ExT_isS_26 rfl 1 rfl (cs := [.bool q.b1, .slice u1 q.t1.length uc1, .slice u2 q.q1.length uc2, .bool q.b2, .slice u3 q.t2.length uc3, .slice u4 q.q2.length uc4]) rfl rfl) ?_
  intro a hA
  refine seq_call hA rfl rfl rfl (enters_func  rfl rfl (fun w => by kernel_rfl)) (cmpQ_as (show Nm _ p a1 ac1 a2 ac2 a3 ac3 a4 ac4 from ⟨⟨(hS.rd 11 rfl), ha.s1.nil, ha.s1.cap⟩, ⟨(hS.rd 10 rfl), ha.s2.nil, ha.s2.cap⟩, ⟨(hS.rd 9 rfl), ha.s3.nil, ha.s3.cap⟩, ⟨(hS.rd 8 rfl), ha.s4.nil, ha.s4.cap⟩⟩) hl (show Nm _ q u1 uc1 u2 uc2 u3 uc3 u4 uc4 from ⟨⟨(hS.rd 7 rfl), hb.s1.nil, hb.s1.cap⟩, ⟨(hS.rd 6 rfl), hb.s2.nil, hb.s2.cap⟩, ⟨(hS.rd 5 rfl), hb.s3.nil, hb.s3.cap⟩, ⟨(hS.rd 4 rfl), hb.s4.nil, hb.s4.cap⟩⟩) hm d1) ?_
  rintro _ w10 ⟨rfl, hb9⟩
  replace hS := hS.call hb9
  refine ⟨_, rfl, ?_⟩
  intro a hA
  refine seq_do hA rfl rfl rfl (does_move rfl) ?_
  intro a hA
  refine seq_do (v := .int .i64 c1.1) hA rfl rfl rfl (does_extract (vs := [.int .i64 c1.1, .int .i64 c1.2]) rfl rfl) ?_
  intro a hA
  refine seq_do (v := .int .i64 c1.2) hA rfl rfl rfl (does_extract (vs := [.int .i64 c1.1, .int .i64 c1.2]) rfl rfl) ?_
  intro a hA
  refine seq_do hA rfl rfl rfl (does_assign rfl) ?_
  intro a hA
  refine seq_do hA rfl rfl rfl (does_assign rfl) ?_
  intro a hA
  refine seq_end ?_
  refine hK8 _ _ ?_
  refine wp_seq_k (fun K11 hK11 => ?_)
  refine wp_region_lit ?_
  refine seq_do (v := .agg #[.bool q.b1, .slice u1 q.t1.length uc1, .slice u2 q.q1.length uc2, .bool q.b2, .slice u3 q.t2.length uc3, .slice u4 q.q2.length uc4]) hA rfl rfl rfl (does_loadS hS ExT_isS_26 rfl 1 rfl (cs := [.bool q.b1, .slice u1 q.t1.length uc1, .slice u2 q.q1.length uc2, .bool q.b2, .slice u3 q.t2.length uc3, .slice u4 q.q2.length uc4]) rfl rfl) ?_
  intro a hA
  refine seq_do (v := .agg #[.bool p.b1, .slice a1 p.t1.length ac1, .slice a2 p.q1.length ac2, .bool p.b2, .slice a3 p.t2.length ac3, .slice a4 p.q2.length ac4]) hA rfl rfl rfl (does_loadS hS ExT_isS_26 rfl 2 rfl (cs := [.bool p.b1, .slice a1 p.t1.length ac1, .slice a2 p.q1.length ac2, .bool p.b2, .slice a3 p.t2.length ac3, .slice a4 p.q2.length ac4]) rfl rfl) ?_
  intro a hA
  refine seq_call hA rfl rfl rfl (enters_func  rfl rfl (fun w => by kernel_rfl)) (cmpQ_as (show Nm _ q u1 uc1 u2 uc2 u3 uc3 u4 uc4 from ⟨⟨(hS.rd 7 rfl), hb.s1.nil, hb.s1.cap⟩, ⟨(hS.rd 6 rfl), hb.s2.nil, hb.s2.cap⟩, ⟨(hS.rd 5 rfl), hb.s3.nil, hb.s3.cap⟩, ⟨(hS.rd 4 rfl), hb.s4.nil, hb.s4.cap⟩⟩) hm (show Nm _ p a1 ac1 a2 ac2 a3 ac3 a4 ac4 from ⟨⟨(hS.rd 11 rfl), ha.s1.nil, ha.s1.cap⟩, ⟨(hS.rd 10 rfl), ha.s2.nil, ha.s2.cap⟩, ⟨(hS.rd 9 rfl), ha.s3.nil, ha.s3.cap⟩, ⟨(hS.rd 8 rfl), ha.s4.nil, ha.s4.cap⟩⟩) hl d2) ?_
  rintro _ w13 ⟨rfl, hb12⟩
  replace hS := hS.call hb12
  refine ⟨_, rfl, ?_⟩
  intro a hA
  refine seq_do hA rfl rfl rfl (does_move rfl) ?_
  intro a hA
  refine seq_do (v := .int .i64 c2.1) hA rfl rfl rfl (does_extract (vs := [.int .i64 c2.1, .int .i64 c2.2]) rfl rfl) ?_
  intro a hA
  refine seq_do (v := .int .i64 c2.2) hA rfl rfl rfl (does_extract (vs := [.int .i64 c2.1, .int .i64 c2.2]) rfl rfl) ?_
  intro a hA
  refine seq_do hA rfl rfl rfl (does_assign rfl) ?_
  intro a hA
  refine seq_do hA rfl rfl rfl (does_assign rfl) ?_
  intro a hA
  refine seq_end ?_
  refine hK11 _ _ ?_
  refine wp_seq_k (fun K14 hK14 => ?_)
  refine wp_seq_k (fun K15 hK15 => ?_)
  refine wp_region_lit ?_
  refine seq_call hA rfl rfl rfl (enters_func  rfl rfl (fun w => by kernel_rfl)) (awake3_any) ?_
  rintro _ w17 ⟨rfl, hb16⟩
  replace hS := hS.call hb16
  refine ⟨_, rfl, ?_⟩
  intro a hA
  refine seq_do (v := .bool false) hA rfl rfl rfl (does_un rfl un_not) ?_
  intro a hA
  refine seq_do hA rfl rfl rfl (does_move rfl) ?_
  intro a hA
  refine seq_do hA rfl rfl rfl (does_move rfl) ?_
  intro a hA
  refine seq_do hA rfl rfl rfl (does_move rfl) ?_
  intro a hA
  refine seq_do (v := .int .i64 (-c2.1)) hA rfl rfl rfl (does_un rfl (un_neg (i64In (by omega) (by omega)))) ?_
  intro a hA
  refine seq_do (v := .bool false) hA rfl rfl rfl (does_bin rfl rfl (fun w => (bin_neq w).trans (by rw [show ((c1.1 != -c2.1)) = false from (bne_eq_false_iff_eq.2 hF1)]))) ?_
  intro a hA
  refine seq_do (v := .bool false) hA rfl rfl rfl (does_pick rfl rfl rfl rfl) ?_
  intro a hA
  refine seq_do hA rfl rfl rfl (does_move rfl) ?_
  intro a hA
  refine seq_do hA rfl rfl rfl (does_move rfl) ?_
  intro a hA
  refine seq_do hA rfl rfl rfl (does_move rfl) ?_
  intro a hA
  refine seq_do (v := .bool false) hA rfl rfl rfl (does_bin rfl rfl (fun w => (bin_neq w).trans (by rw [show ((c1.2 != c2.2)) = false from (bne_eq_false_iff_eq.2 hF2)]))) ?_
  intro a hA
  refine seq_do (v := .bool false) hA rfl rfl rfl (does_pick rfl rfl rfl rfl) ?_
  intro a hA
  refine seq_end ?_
  refine hK15 _ _ ?_
  refine wp_cond_false (hA.ev rfl) ?_
  refine wp_skip ?_
  refine hK14 _ _ ?_
  refine wp_seq_k (fun K18 hK18 => ?_)
  refine wp_region_lit ?_
  refine seq_do (v := .agg #[.bool p.b1, .slice a1 p.t1.length ac1, .slice a2 p.q1.length ac2, .bool p.b2, .slice a3 p.t2.length ac3, .slice a4 p.q2.length ac4]) hA rfl rfl rfl (does_loadS hS ExT_isS_26 rfl 2 rfl (cs := [.bool p.b1, .slice a1 p.t1.length ac1, .slice a2 p.q1.length ac2, .bool p.b2, .slice a3 p.t2.length ac3, .slice a4 p.q2.length ac4]) rfl rfl) ?_
  intro a hA
  refine seq_do (v := .agg #[.bool r.b1, .slice y1 r.t1.length yc1, .slice y2 r.q1.length yc2, .bool r.b2, .slice y3 r.t2.length yc3, .slice y4 r.q2.length yc4]) hA rfl rfl rfl (does_loadS hS ExT_isS_26 rfl 0 rfl (cs := [.bool r.b1, .slice y1 r.t1.length yc1, .slice y2 r.q1.length yc2, .bool r.b2, .slice y3 r.t2.length yc3, .slice y4 r.q2.length yc4]) rfl rfl) ?_
  intro a hA
  refine seq_call hA rfl rfl rfl (enters_func  rfl rfl (fun w => by kernel_rfl)) (addQ_as (show Nm _ p a1 ac1 a2 ac2 a3 ac3 a4 ac4 from ⟨⟨(hS.rd 11 rfl), ha.s1.nil, ha.s1.cap⟩, ⟨(hS.rd 10 rfl), ha.s2.nil, ha.s2.cap⟩, ⟨(hS.rd 9 rfl), ha.s3.nil, ha.s3.cap⟩, ⟨(hS.rd 8 rfl), ha.s4.nil, ha.s4.cap⟩⟩) hl (show Nm _ r y1 yc1 y2 yc2 y3 yc3 y4 yc4 from ⟨⟨(hS.rd 3 rfl), hc.s1.nil, hc.s1.cap⟩, ⟨(hS.rd 2 rfl), hc.s2.nil, hc.s2.cap⟩, ⟨(hS.rd 1 rfl), hc.s3.nil, hc.s3.cap⟩, ⟨(hS.rd 0 rfl), hc.s4.nil, hc.s4.cap⟩⟩) ho e1) ?_
  rintro _ w22 ⟨p19_1, p19_c1, p19_2, p19_c2, p19_3, p19_c3, p19_4, p19_c4, rfl, hn20, hb21⟩
  replace hS := hS.call hb21
  replace hS := hS.addR hn20.s1.rd
  replace hS := hS.addR hn20.s2.rd
  replace hS := hS.addR hn20.s3.rd
  replace hS := hS.addR hn20.s4.rd
  refine ⟨_, rfl, ?_⟩
  intro a hA
  refine seq_do hA rfl rfl rfl (does_move rfl) ?_
  intro a hA
  refine seq_do (v := .agg #[.bool z1.1.b1, .slice p19_1 z1.1.t1.length p19_c1, .slice p19_2 z1.1.q1.length p19_c2, .bool z1.1.b2, .slice p19_3 z1.1.t2.length p19_c3, .slice p19_4 z1.1.q2.length p19_c4]) hA rfl rfl rfl (does_extract (vs := [.agg #[.bool z1.1.b1, .slice p19_1 z1.1.t1.length p19_c1, .slice p19_2 z1.1.q1.length p19_c2, .bool z1.1.b2, .slice p19_3 z1.1.t2.length p19_c3, .slice p19_4 z1.1.q2.length p19_c4], .int .i64 z1.2]) rfl rfl) ?_
  intro a hA
  refine seq_do (v := .int .i64 z1.2) hA rfl rfl rfl (does_extract (vs := [.agg #[.bool z1.1.b1, .slice p19_1 z1.1.t1.length p19_c1, .slice p19_2 z1.1.q1.length p19_c2, .bool z1.1.b2, .slice p19_3 z1.1.t2.length p19_c3, .slice p19_4 z1.1.q2.length p19_c4], .int .i64 z1.2]) rfl rfl) ?_
  intro a hA
  refine seq_new (vs := [.bool false, .slice none 0 0, .slice none 0 0, .bool false, .slice none 0 0, .slice none 0 0]) (t := 26) hA hS rfl rfl rfl (fun g => .pointer (some ⟨g, 0, none⟩)) (does_alloc (z := .agg #[.bool false, .slice none 0 0, .slice none 0 0, .bool false, .slice none 0 0, .slice none 0 0]) (by kernel_rfl) rfl) rfl ?_
  intro g23 w24 hS a hA
  refine seq_store (us := [.bool z1.1.b1, .slice p19_1 z1.1.t1.length p19_c1, .slice p19_2 z1.1.q1.length p19_c2, .bool z1.1.b2, .slice p19_3 z1.1.t2.length p19_c3, .slice p19_4 z1.1.q2.length p19_c4]) hA hS rfl rfl (sets_store (cs := [.bool z1.1.b1, .slice p19_1 z1.1.t1.length p19_c1, .slice p19_2 z1.1.q1.length p19_c2, .bool z1.1.b2, .slice p19_3 z1.1.t2.length p19_c3, .slice p19_4 z1.1.q2.length p19_c4]) rfl rfl rfl (by kernel_rfl) hS 0 rfl rfl rfl) 0 rfl rfl rfl rfl ?_
  intro w25 hS
  refine seq_do hA rfl rfl rfl (does_assign rfl) ?_
  intro a hA
  refine seq_end ?_
  refine hK18 _ _ ?_
  refine wp_seq_k (fun K26 hK26 => ?_)
  refine wp_region_lit ?_
  refine seq_do (v := .agg #[.bool q.b1, .slice u1 q.t1.length uc1, .slice u2 q.q1.length uc2, .bool q.b2, .slice u3 q.t2.length uc3, .slice u4 q.q2.length uc4]) hA rfl rfl rfl (does_loadS hS ExT_isS_26 rfl 2 rfl (cs := [.bool q.b1, .slice u1 q.t1.length uc1, .slice u2 q.q1.length uc2, .bool q.b2, .slice u3 q.t2.length uc3, .slice u4 q.q2.length uc4]) rfl rfl) ?_
  intro a hA
  refine seq_do (v := .agg #[.bool r.b1, .slice y1 r.t1.length yc1, .slice y2 r.q1.length yc2, .bool r.b2, .slice y3 r.t2.length yc3, .slice y4 r.q2.length yc4]) hA rfl rfl rfl (does_loadS hS ExT_isS_26 rfl 1 rfl (cs := [.bool r.b1, .slice y1 r.t1.length yc1, .slice y2 r.q1.length yc2, .bool r.b2, .slice y3 r.t2.length yc3, .slice y4 r.q2.length yc4]) rfl rfl) ?_
  intro a hA
  refine seq_call hA rfl rfl rfl (enters_func  rfl rfl (fun w => by kernel_rfl)) (addQ_as (show Nm _ q u1 uc1 u2 uc2 u3 uc3 u4 uc4 from ⟨⟨(hS.rd 11 rfl), hb.s1.nil, hb.s1.cap⟩, ⟨(hS.rd 10 rfl), hb.s2.nil, hb.s2.cap⟩, ⟨(hS.rd 9 rfl), hb.s3.nil, hb.s3.cap⟩, ⟨(hS.rd 8 rfl), hb.s4.nil, hb.s4.cap⟩⟩) hm (show Nm _ r y1 yc1 y2 yc2 y3 yc3 y4 yc4 from ⟨⟨(hS.rd 7 rfl), hc.s1.nil, hc.s1.cap⟩, ⟨(hS.rd 6 rfl), hc.s2.nil, hc.s2.cap⟩, ⟨(hS.rd 5 rfl), hc.s3.nil, hc.s3.cap⟩, ⟨(hS.rd 4 rfl), hc.s4.nil, hc.s4.cap⟩⟩) ho e2) ?_
  rintro _ w30 ⟨p27_1, p27_c1, p27_2, p27_c2, p27_3, p27_c3, p27_4, p27_c4, rfl, hn28, hb29⟩
  replace hS := hS.call hb29
  replace hS := hS.addR hn28.s1.rd
  replace hS := hS.addR hn28.s2.rd
  replace hS := hS.addR hn28.s3.rd
  replace hS := hS.addR hn28.s4.rd
  refine ⟨_, rfl, ?_⟩
  intro a hA
  refine seq_do hA rfl rfl rfl (does_move rfl) ?_
  intro a hA
  refine seq_do (v := .agg #[.bool z2.1.b1, .slice p27_1 z2.1.t1.length p27_c1, .slice p27_2 z2.1.q1.length p27_c2, .bool z2.1.b2, .slice p27_3 z2.1.t2.length p27_c3, .slice p27_4 z2.1.q2.length p27_c4]) hA rfl rfl rfl (does_extract (vs := [.agg #[.bool z2.1.b1, .slice p27_1 z2.1.t1.length p27_c1, .slice p27_2 z2.1.q1.length p27_c2, .bool z2.1.b2, .slice p27_3 z2.1.t2.length p27_c3, .slice p27_4 z2.1.q2.length p27_c4], .int .i64 z2.2]) rfl rfl) ?_
  intro a hA
  refine seq_do (v := .int .i64 z2.2) hA rfl rfl rfl (does_extract (vs := [.agg #[.bool z2.1.b1, .slice p27_1 z2.1.t1.length p27_c1, .slice p27_2 z2.1.q1.length p27_c2, .bool z2.1.b2, .slice p27_3 z2.1.t2.length p27_c3, .slice p27_4 z2.1.q2.length p27_c4], .int .i64 z2.2]) rfl rfl) ?_
  intro a hA
  refine seq_new (vs := [.bool false, .slice none 0 0, .slice none 0 0, .bool false, .slice none 0 0, .slice none 0 0]) (t := 26) hA hS rfl rfl rfl (fun g => .pointer (some ⟨g, 0, none⟩)) (does_alloc (z := .agg #[.bool false, .slice none 0 0, .slice none 0 0, .bool false, .slice none 0 0, .slice none 0 0]) (by kernel_rfl) rfl) rfl ?_
  intro g31 w32 hS a hA
  refine seq_store (us := [.bool z2.1.b1, .slice p27_1 z2.1.t1.length p27_c1, .slice p27_2 z2.1.q1.length p27_c2, .bool z2.1.b2, .slice p27_3 z2.1.t2.length p27_c3, .slice p27_4 z2.1.q2.length p27_c4]) hA hS rfl rfl (sets_store (cs := [.bool z2.1.b1, .slice p27_1 z2.1.t1.length p27_c1, .slice p27_2 z2.1.q1.length p27_c2, .bool z2.1.b2, .slice p27_3 z2.1.t2.length p27_c3, .slice p27_4 z2.1.q2.length p27_c4]) rfl rfl rfl (by kernel_rfl) hS 0 rfl rfl rfl) 0 rfl rfl rfl rfl ?_
  intro w33 hS
  refine seq_do hA rfl rfl rfl (does_assign rfl) ?_
  intro a hA
  refine seq_end ?_
  refine hK26 _ _ ?_
  refine wp_seq_k (fun K34 hK34 => ?_)
  refine wp_region_lit ?_
  refine seq_do (v := .agg #[.bool z1.1.b1, .slice p19_1 z1.1.t1.length p19_c1, .slice p19_2 z1.1.q1.length p19_c2, .bool z1.1.b2, .slice p19_3 z1.1.t2.length p19_c3, .slice p19_4 z1.1.q2.length p19_c4]) hA rfl rfl rfl (does_loadS hS ExT_isS_26 rfl 1 rfl (cs := [.bool z1.1.b1, .slice p19_1 z1.1.t1.length p19_c1, .slice p19_2 z1.1.q1.length p19_c2, .bool z1.1.b2, .slice p19_3 z1.1.t2.length p19_c3, .slice p19_4 z1.1.q2.length p19_c4]) rfl rfl) ?_
  intro a hA
  refine seq_do (v := .agg #[.bool z2.1.b1, .slice p27_1 z2.1.t1.length p27_c1, .slice p27_2 z2.1.q1.length p27_c2, .bool z2.1.b2, .slice p27_3 z2.1.t2.length p27_c3, .slice p27_4 z2.1.q2.length p27_c4]) hA rfl rfl rfl (does_loadS hS ExT_isS_26 rfl 0 rfl (cs := [.bool z2.1.b1, .slice p27_1 z2.1.t1.length p27_c1, .slice p27_2 z2.1.q1.length p27_c2, .bool z2.1.b2, .slice p27_3 z2.1.t2.length p27_c3, .slice p27_4 z2.1.q2.length p27_c4]) rfl rfl) ?_
  intro a hA
  refine seq_call hA rfl rfl rfl (enters_func  rfl rfl (fun w => by kernel_rfl)) (cmpQ_as (show Nm _ z1.1 p19_1 p19_c1 p19_2 p19_c2 p19_3 p19_c3 p19_4 p19_c4 from ⟨⟨(hS.rd 7 rfl), hn20.s1.nil, hn20.s1.cap⟩, ⟨(hS.rd 6 rfl), hn20.s2.nil, hn20.s2.cap⟩, ⟨(hS.rd 5 rfl), hn20.s3.nil, hn20.s3.cap⟩, ⟨(hS.rd 4 rfl), hn20.s4.nil, hn20.s4.cap⟩⟩) l1 (show Nm _ z2.1 p27_1 p27_c1 p27_2 p27_c2 p27_3 p27_c3 p27_4 p27_c4 from ⟨⟨(hS.rd 3 rfl), hn28.s1.nil, hn28.s1.cap⟩, ⟨(hS.rd 2 rfl), hn28.s2.nil, hn28.s2.cap⟩, ⟨(hS.rd 1 rfl), hn28.s3.nil, hn28.s3.cap⟩, ⟨(hS.rd 0 rfl), hn28.s4.nil, hn28.s4.cap⟩⟩) l2 d3) ?_
  rintro _ w36 ⟨rfl, hb35⟩
  replace hS := hS.call hb35
  refine ⟨_, rfl, ?_⟩
  intro a hA
  refine seq_do hA rfl rfl rfl (does_move rfl) ?_
  intro a hA
  refine seq_do (v := .int .i64 c3.1) hA rfl rfl rfl (does_extract (vs := [.int .i64 c3.1, .int .i64 c3.2]) rfl rfl) ?_
  intro a hA
  refine seq_do (v := .int .i64 c3.2) hA rfl rfl rfl (does_extract (vs := [.int .i64 c3.1, .int .i64 c3.2]) rfl rfl) ?_
  intro a hA
  refine seq_do hA rfl rfl rfl (does_assign rfl) ?_
  intro a hA
  refine seq_do hA rfl rfl rfl (does_assign rfl) ?_
  intro a hA
  refine seq_end ?_
  refine hK34 _ _ ?_
  refine wp_seq_k (fun K37 hK37 => ?_)
  refine wp_seq_k (fun K38 hK38 => ?_)
  have hJ43 : ∀ a w1, (Sl a 178 [(0, .agg #[.bool p.b1, .slice a1 p.t1.length ac1, .slice a2 p.q1.length ac2, .bool p.b2, .slice a3 p.t2.length ac3, .slice a4 p.q2.length ac4]), (1, .agg #[.bool q.b1, .slice u1 q.t1.length uc1, .slice u2 q.q1.length uc2, .bool q.b2, .slice u3 q.t2.length uc3, .slice u4 q.q2.length uc4]), (2, .agg #[.bool r.b1, .slice y1 r.t1.length yc1, .slice y2 r.q1.length yc2, .bool r.b2, .slice y3 r.t2.length yc3, .slice y4 r.q2.length yc4]), (3, .pointer (some ⟨g2, 0, none⟩)), (4, .pointer (some ⟨g4, 0, none⟩)), (5, .pointer (some ⟨g6, 0, none⟩)), (6, .bool false), (7, .int .i64 c1.1), (8, .int .i64 c1.2), (9, .int .i64 c2.1), (10, .int .i64 c2.2), (11, .pointer (some ⟨g23, 0, none⟩)), (12, .int .i64 z1.2), (13, .pointer (some ⟨g31, 0, none⟩)), (14, .int .i64 z2.2), (15, .int .i64 c3.1), (16, .int .i64 c3.2), (26, .tuple #[.int .i64 c1.1, .int .i64 c1.2]), (27, .agg #[.bool p.b1, .slice a1 p.t1.length ac1, .slice a2 p.q1.length ac2, .bool p.b2, .slice a3 p.t2.length ac3, .slice a4 p.q2.length ac4]), (28, .agg #[.bool q.b1, .slice u1 q.t1.length uc1, .slice u2 q.q1.length uc2, .bool q.b2, .slice u3 q.t2.length uc3, .slice u4 q.q2.length uc4]), (29, .tuple #[.int .i64 c1.1, .int .i64 c1.2]), (30, .int .i64 c1.1), (31, .int .i64 c1.2), (32, .tuple #[.int .i64 c2.1, .int .i64 c2.2]), (33, .agg #[.bool q.b1, .slice u1 q.t1.length uc1, .slice u2 q.q1.length uc2, .bool q.b2, .slice u3 q.t2.length uc3, .slice u4 q.q2.length uc4]), (34, .agg #[.bool p.b1, .slice a1 p.t1.length ac1, .slice a2 p.q1.length ac2, .bool p.b2, .slice a3 p.t2.length ac3, .slice a4 p.q2.length ac4]), (35, .tuple #[.int .i64 c2.1, .int .i64 c2.2]), (36, .int .i64 c2.1), (37, .int .i64 c2.2), (38, .bool true), (39, .bool false), (40, .bool false), (41, .int .i64 c1.1), (42, .int .i64 c2.1), (43, .int .i64 (-c2.1)), (44, .bool false), (45, .bool false), (46, .bool false), (47, .int .i64 c1.2), (48, .int .i64 c2.2), (49, .bool false), (50, .bool false), (51, .tuple #[.agg #[.bool z1.1.b1, .slice p19_1 z1.1.t1.length p19_c1, .slice p19_2 z1.1.q1.length p19_c2, .bool z1.1.b2, .slice p19_3 z1.1.t2.length p19_c3, .slice p19_4 z1.1.q2.length p19_c4], .int .i64 z1.2]), (52, .agg #[.bool p.b1, .slice a1 p.t1.length ac1, .slice a2 p.q1.length ac2, .bool p.b2, .slice a3 p.t2.length ac3, .slice a4 p.q2.length ac4]), (53, .agg #[.bool r.b1, .slice y1 r.t1.length yc1, .slice y2 r.q1.length yc2, .bool r.b2, .slice y3 r.t2.length yc3, .slice y4 r.q2.length yc4]), (54, .tuple #[.agg #[.bool z1.1.b1, .slice p19_1 z1.1.t1.length p19_c1, .slice p19_2 z1.1.q1.length p19_c2, .bool z1.1.b2, .slice p19_3 z1.1.t2.length p19_c3, .slice p19_4 z1.1.q2.length p19_c4], .int .i64 z1.2]), (55, .agg #[.bool z1.1.b1, .slice p19_1 z1.1.t1.length p19_c1, .slice p19_2 z1.1.q1.length p19_c2, .bool z1.1.b2, .slice p19_3 z1.1.t2.length p19_c3, .slice p19_4 z1.1.q2.length p19_c4]), (56, .int .i64 z1.2), (57, .tuple #[.agg #[.bool z2.1.b1, .slice p27_1 z2.1.t1.length p27_c1, .slice p27_2 z2.1.q1.length p27_c2, .bool z2.1.b2, .slice p27_3 z2.1.t2.length p27_c3, .slice p27_4 z2.1.q2.length p27_c4], .int .i64 z2.2]), (58, .agg #[.bool q.b1, .slice u1 q.t1.length uc1, .slice u2 q.q1.length uc2, .bool q.b2, .slice u3 q.t2.length uc3, .slice u4 q.q2.length uc4]), (59, .agg #[.bool r.b1, .slice y1 r.t1.length yc1, .slice y2 r.q1.length yc2, .bool r.b2, .slice y3 r.t2.length yc3, .slice y4 r.q2.length yc4]), (60, .tuple #[.agg #[.bool z2.1.b1, .slice p27_1 z2.1.t1.length p27_c1, .slice p27_2 z2.1.q1.length p27_c2, .bool z2.1.b2, .slice p27_3 z2.1.t2.length p27_c3, .slice p27_4 z2.1.q2.length p27_c4], .int .i64 z2.2]), (61, .agg #[.bool z2.1.b1, .slice p27_1 z2.1.t1.length p27_c1, .slice p27_2 z2.1.q1.length p27_c2, .bool z2.1.b2, .slice p27_3 z2.1.t2.length p27_c3, .slice p27_4 z2.1.q2.length p27_c4]), (62, .int .i64 z2.2), (63, .tuple #[.int .i64 c3.1, .int .i64 c3.2]), (64, .agg #[.bool z1.1.b1, .slice p19_1 z1.1.t1.length p19_c1, .slice p19_2 z1.1.q1.length p19_c2, .bool z1.1.b2, .slice p19_3 z1.1.t2.length p19_c3, .slice p19_4 z1.1.q2.length p19_c4]), (65, .agg #[.bool z2.1.b1, .slice p27_1 z2.1.t1.length p27_c1, .slice p27_2 z2.1.q1.length p27_c2, .bool z2.1.b2, .slice p27_3 z2.1.t2.length p27_c3, .slice p27_4 z2.1.q2.length p27_c4]), (66, .tuple #[.int .i64 c3.1, .int .i64 c3.2]), (67, .int .i64 c3.1), (68, .int .i64 c3.2), (69, .int .i64 c1.2), (87, .bool false)] ∧ St w w1 [(g31, [.bool z2.1.b1, .slice p27_1 z2.1.t1.length p27_c1, .slice p27_2 z2.1.q1.length p27_c2, .bool z2.1.b2, .slice p27_3 z2.1.t2.length p27_c3, .slice p27_4 z2.1.q2.length p27_c4]), (g23, [.bool z1.1.b1, .slice p19_1 z1.1.t1.length p19_c1, .slice p19_2 z1.1.q1.length p19_c2, .bool z1.1.b2, .slice p19_3 z1.1.t2.length p19_c3, .slice p19_4 z1.1.q2.length p19_c4]), (g6, [.bool r.b1, .slice y1 r.t1.length yc1, .slice y2 r.q1.length yc2, .bool r.b2, .slice y3 r.t2.length yc3, .slice y4 r.q2.length yc4]), (g4, [.bool q.b1, .slice u1 q.t1.length uc1, .slice u2 q.q1.length uc2, .bool q.b2, .slice u3 q.t2.length uc3, .slice u4 q.q2.length uc4]), (g2, [.bool p.b1, .slice a1 p.t1.length ac1, .slice a2 p.q1.length ac2, .bool p.b2, .slice a3 p.t2.length ac3, .slice a4 p.q2.length ac4])] [(p27_4, z2.1.q2), (p27_3, z2.1.t2), (p27_2, z2.1.q1), (p27_1, z2.1.t1), (p19_4, z1.1.q2), (p19_3, z1.1.t2), (p19_2, z1.1.q1), (p19_1, z1.1.t1), (y4, r.q2), (y3, r.t2), (y2, r.q1), (y1, r.t1), (u4, q.q2), (u3, q.t2), (u2, q.q1), (u1, q.t1), (a4, p.q2), (a3, p.t2), (a2, p.q1), (a1, p.t1)] []) → K38 a w1 := by
    clear hA hS
    rintro a w44 ⟨hA, hS⟩
    refine hK38 _ _ ?_
    refine wp_cond_false (hA.ev rfl) ?_
    refine wp_skip ?_
    refine hK37 _ _ ?_
    refine wp_seq_k (fun K45 hK45 => ?_)
    refine wp_region_lit ?_
    refine seq_do (v := .agg #[.bool p.b1, .slice a1 p.t1.length ac1, .slice a2 p.q1.length ac2, .bool p.b2, .slice a3 p.t2.length ac3, .slice a4 p.q2.length ac4]) hA rfl rfl rfl (does_loadS hS ExT_isS_26 rfl 4 rfl (cs := [.bool p.b1, .slice a1 p.t1.length ac1, .slice a2 p.q1.length ac2, .bool p.b2, .slice a3 p.t2.length ac3, .slice a4 p.q2.length ac4]) rfl rfl) ?_
    intro a hA
    refine seq_do (v := .agg #[.bool q.b1, .slice u1 q.t1.length uc1, .slice u2 q.q1.length uc2, .bool q.b2, .slice u3 q.t2.length uc3, .slice u4 q.q2.length uc4]) hA rfl rfl rfl (does_loadS hS ExT_isS_26 rfl 3 rfl (cs := [.bool q.b1, .slice u1 q.t1.length uc1, .slice u2 q.q1.length uc2, .bool q.b2, .slice u3 q.t2.length uc3, .slice u4 q.q2.length uc4]) rfl rfl) ?_
    intro a hA
    refine seq_call hA rfl rfl rfl (enters_func  rfl rfl (fun w => by kernel_rfl)) (dmQ_as (show Nm _ p a1 ac1 a2 ac2 a3 ac3 a4 ac4 from ⟨⟨(hS.rd 19 rfl), ha.s1.nil, ha.s1.cap⟩, ⟨(hS.rd 18 rfl), ha.s2.nil, ha.s2.cap⟩, ⟨(hS.rd 17 rfl), ha.s3.nil, ha.s3.cap⟩, ⟨(hS.rd 16 rfl), ha.s4.nil, ha.s4.cap⟩⟩) hl (show Nm _ q u1 uc1 u2 uc2 u3 uc3 u4 uc4 from ⟨⟨(hS.rd 15 rfl), hb.s1.nil, hb.s1.cap⟩, ⟨(hS.rd 14 rfl), hb.s2.nil, hb.s2.cap⟩, ⟨(hS.rd 13 rfl), hb.s3.nil, hb.s3.cap⟩, ⟨(hS.rd 12 rfl), hb.s4.nil, hb.s4.cap⟩⟩) hm dt) ?_
    rintro _ w51 ⟨p46_1, p46_c1, p46_2, p46_c2, p46_3, p46_c3, p46_4, p46_c4, p47_1, p47_c1, p47_2, p47_c2, p47_3, p47_c3, p47_4, p47_c4, rfl, hn48, hn49, hb50⟩
    replace hS := hS.call hb50
    replace hS := hS.addR hn48.s1.rd
    replace hS := hS.addR hn48.s2.rd
    replace hS := hS.addR hn48.s3.rd
    replace hS := hS.addR hn48.s4.rd
    replace hS := hS.addR hn49.s1.rd
    replace hS := hS.addR hn49.s2.rd
    replace hS := hS.addR hn49.s3.rd
    replace hS := hS.addR hn49.s4.rd
    refine ⟨_, rfl, ?_⟩
    intro a hA
    refine seq_do hA rfl rfl rfl (does_move rfl) ?_
    intro a hA
    refine seq_do (v := .agg #[.bool t.1.b1, .slice p46_1 t.1.t1.length p46_c1, .slice p46_2 t.1.q1.length p46_c2, .bool t.1.b2, .slice p46_3 t.1.t2.length p46_c3, .slice p46_4 t.1.q2.length p46_c4]) hA rfl rfl rfl (does_extract (vs := [.agg #[.bool t.1.b1, .slice p46_1 t.1.t1.length p46_c1, .slice p46_2 t.1.q1.length p46_c2, .bool t.1.b2, .slice p46_3 t.1.t2.length p46_c3, .slice p46_4 t.1.q2.length p46_c4], .agg #[.bool t.2.1.b1, .slice p47_1 t.2.1.t1.length p47_c1, .slice p47_2 t.2.1.q1.length p47_c2, .bool t.2.1.b2, .slice p47_3 t.2.1.t2.length p47_c3, .slice p47_4 t.2.1.q2.length p47_c4], .int .i64 t.2.2]) rfl rfl) ?_
    intro a hA
    refine seq_do (v := .agg #[.bool t.2.1.b1, .slice p47_1 t.2.1.t1.length p47_c1, .slice p47_2 t.2.1.q1.length p47_c2, .bool t.2.1.b2, .slice p47_3 t.2.1.t2.length p47_c3, .slice p47_4 t.2.1.q2.length p47_c4]) hA rfl rfl rfl (does_extract (vs := [.agg #[.bool t.1.b1, .slice p46_1 t.1.t1.length p46_c1, .slice p46_2 t.1.q1.length p46_c2, .bool t.1.b2, .slice p46_3 t.1.t2.length p46_c3, .slice p46_4 t.1.q2.length p46_c4], .agg #[.bool t.2.1.b1, .slice p47_1 t.2.1.t1.length p47_c1, .slice p47_2 t.2.1.q1.length p47_c2, .bool t.2.1.b2, .slice p47_3 t.2.1.t2.length p47_c3, .slice p47_4 t.2.1.q2.length p47_c4], .int .i64 t.2.2]) rfl rfl) ?_
    intro a hA
    refine seq_do (v := .int .i64 t.2.2) hA rfl rfl rfl (does_extract (vs := [.agg #[.bool t.1.b1, .slice p46_1 t.1.t1.length p46_c1, .slice p46_2 t.1.q1.length p46_c2, .bool t.1.b2, .slice p46_3 t.1.t2.length p46_c3, .slice p46_4 t.1.q2.length p46_c4], .agg #[.bool t.2.1.b1, .slice p47_1 t.2.1.t1.length p47_c1, .slice p47_2 t.2.1.q1.length p47_c2, .bool t.2.1.b2, .slice p47_3 t.2.1.t2.length p47_c3, .slice p47_4 t.2.1.q2.length p47_c4], .int .i64 t.2.2]) rfl rfl) ?_
    intro a hA
    refine seq_new (vs := [.bool false, .slice none 0 0, .slice none 0 0, .bool false, .slice none 0 0, .slice none 0 0]) (t := 26) hA hS rfl rfl rfl (fun g => .pointer (some ⟨g, 0, none⟩)) (does_alloc (z := .agg #[.bool false, .slice none 0 0, .slice none 0 0, .bool false, .slice none 0 0, .slice none 0 0]) (by kernel_rfl) rfl) rfl ?_
    intro g52 w53 hS a hA
    refine seq_new (vs := [.bool false, .slice none 0 0, .slice none 0 0, .bool false, .slice none 0 0, .slice none 0 0]) (t := 26) hA hS rfl rfl rfl (fun g => .pointer (some ⟨g, 0, none⟩)) (does_alloc (z := .agg #[.bool false, .slice none 0 0, .slice none 0 0, .bool false, .slice none 0 0, .slice none 0 0]) (by kernel_rfl) rfl) rfl ?_
    intro g54 w55 hS a hA
    refine seq_store (us := [.bool t.1.b1, .slice p46_1 t.1.t1.length p46_c1, .slice p46_2 t.1.q1.length p46_c2, .bool t.1.b2, .slice p46_3 t.1.t2.length p46_c3, .slice p46_4 t.1.q2.length p46_c4]) hA hS rfl rfl (sets_store (cs := [.bool t.1.b1, .slice p46_1 t.1.t1.length p46_c1, .slice p46_2 t.1.q1.length p46_c2, .bool t.1.b2, .slice p46_3 t.1.t2.length p46_c3, .slice p46_4 t.1.q2.length p46_c4]) rfl rfl rfl (by kernel_rfl) hS 1 rfl rfl rfl) 1 rfl rfl rfl rfl ?_
    intro w56 hS
    refine seq_store (us := [.bool t.2.1.b1, .slice p47_1 t.2.1.t1.length p47_c1, .slice p47_2 t.2.1.q1.length p47_c2, .bool t.2.1.b2, .slice p47_3 t.2.1.t2.length p47_c3, .slice p47_4 t.2.1.q2.length p47_c4]) hA hS rfl rfl (sets_store (cs := [.bool t.2.1.b1, .slice p47_1 t.2.1.t1.length p47_c1, .slice p47_2 t.2.1.q1.length p47_c2, .bool t.2.1.b2, .slice p47_3 t.2.1.t2.length p47_c3, .slice p47_4 t.2.1.q2.length p47_c4]) rfl rfl rfl (by kernel_rfl) hS 0 rfl rfl rfl) 0 rfl rfl rfl rfl ?_
    intro w57 hS
    refine seq_do hA rfl rfl rfl (does_assign rfl) ?_
    intro a hA
    refine seq_end ?_
    refine hK45 _ _ ?_
    refine wp_seq_k (fun K58 hK58 => ?_)
    refine wp_seq_k (fun K59 hK59 => ?_)
    refine wp_region_lit ?_
    refine seq_do hA rfl rfl rfl (does_move rfl) ?_
    intro a hA
    rcases Bool.eq_false_or_eq_true ((t.2.2 != 0)) with hb60 | hb60
    · have hb60' := bne_iff_ne.1 hb60
      refine seq_do (v := .bool true) hA rfl rfl rfl (does_bin rfl rfl (fun w => (bin_neq w).trans (by rw [hb60]))) ?_
      intro a hA
      refine seq_end ?_
      refine hK59 _ _ ?_
      refine wp_cond_true (hA.ev rfl) ?_
      refine wp_seq_k (fun K61 hK61 => ?_)
      refine wp_draw (S := fun w1 => St w w1 [(g54, [.bool t.2.1.b1, .slice p47_1 t.2.1.t1.length p47_c1, .slice p47_2 t.2.1.q1.length p47_c2, .bool t.2.1.b2, .slice p47_3 t.2.1.t2.length p47_c3, .slice p47_4 t.2.1.q2.length p47_c4]), (g52, [.bool t.1.b1, .slice p46_1 t.1.t1.length p46_c1, .slice p46_2 t.1.q1.length p46_c2, .bool t.1.b2, .slice p46_3 t.1.t2.length p46_c3, .slice p46_4 t.1.q2.length p46_c4]), (g31, [.bool z2.1.b1, .slice p27_1 z2.1.t1.length p27_c1, .slice p27_2 z2.1.q1.length p27_c2, .bool z2.1.b2, .slice p27_3 z2.1.t2.length p27_c3, .slice p27_4 z2.1.q2.length p27_c4]), (g23, [.bool z1.1.b1, .slice p19_1 z1.1.t1.length p19_c1, .slice p19_2 z1.1.q1.length p19_c2, .bool z1.1.b2, .slice p19_3 z1.1.t2.length p19_c3, .slice p19_4 z1.1.q2.length p19_c4]), (g6, [.bool r.b1, .slice y1 r.t1.length yc1, .slice y2 r.q1.length yc2, .bool r.b2, .slice y3 r.t2.length yc3, .slice y4 r.q2.length yc4]), (g4, [.bool q.b1, .slice u1 q.t1.length uc1, .slice u2 q.q1.length uc2, .bool q.b2, .slice u3 q.t2.length uc3, .slice u4 q.q2.length uc4]), (g2, [.bool p.b1, .slice a1 p.t1.length ac1, .slice a2 p.q1.length ac2, .bool p.b2, .slice a3 p.t2.length ac3, .slice a4 p.q2.length ac4])] [(p47_4, t.2.1.q2), (p47_3, t.2.1.t2), (p47_2, t.2.1.q1), (p47_1, t.2.1.t1), (p46_4, t.1.q2), (p46_3, t.1.t2), (p46_2, t.1.q1), (p46_1, t.1.t1), (p27_4, z2.1.q2), (p27_3, z2.1.t2), (p27_2, z2.1.q1), (p27_1, z2.1.t1), (p19_4, z1.1.q2), (p19_3, z1.1.t2), (p19_2, z1.1.q1), (p19_1, z1.1.t1), (y4, r.q2), (y3, r.t2), (y2, r.q1), (y1, r.t1), (u4, q.q2), (u3, q.t2), (u2, q.q1), (u1, q.t1), (a4, p.q2), (a3, p.t2), (a2, p.q1), (a1, p.t1)] []) (by kernel_rfl) ?_
      replace hS := hS.drew
      refine any_take (v := .agg #[.bool t.1.b1, .slice p46_1 t.1.t1.length p46_c1, .slice p46_2 t.1.q1.length p46_c2, .bool t.1.b2, .slice p46_3 t.1.t2.length p46_c3, .slice p46_4 t.1.q2.length p46_c4]) hA 0 rfl rfl rfl rfl (by kernel_rfl) (by kernel_rfl) (by kernel_rfl) (fun c a w h => hP c a _ _ w h) hS (fun w1 hS => does_loadS hS ExT_isS_26 rfl 1 rfl (cs := [.bool t.1.b1, .slice p46_1 t.1.t1.length p46_c1, .slice p46_2 t.1.q1.length p46_c2, .bool t.1.b2, .slice p46_3 t.1.t2.length p46_c3, .slice p46_4 t.1.q2.length p46_c4]) rfl rfl) ?_
      intro a hA
      refine any_take (v := .agg #[.bool false, .slice none 0 0, .slice none 0 0, .bool false, .slice none 0 0, .slice none 0 0]) hA 1 rfl rfl rfl rfl (by kernel_rfl) (by kernel_rfl) (by kernel_rfl) (fun c a w h => hP c a _ _ w h) hS (fun w1 hS => does_build rfl (fun w => by kernel_rfl)) ?_
      intro a hA
      refine any_take (v := .agg #[.bool t.2.1.b1, .slice p47_1 t.2.1.t1.length p47_c1, .slice p47_2 t.2.1.q1.length p47_c2, .bool t.2.1.b2, .slice p47_3 t.2.1.t2.length p47_c3, .slice p47_4 t.2.1.q2.length p47_c4]) hA 3 rfl rfl rfl rfl (by kernel_rfl) (by kernel_rfl) (by kernel_rfl) (fun c a w h => hP c a _ _ w h) hS (fun w1 hS => does_loadS hS ExT_isS_26 rfl 0 rfl (cs := [.bool t.2.1.b1, .slice p47_1 t.2.1.t1.length p47_c1, .slice p47_2 t.2.1.q1.length p47_c2, .bool t.2.1.b2, .slice p47_3 t.2.1.t2.length p47_c3, .slice p47_4 t.2.1.q2.length p47_c4]) rfl rfl) ?_
      intro a hA
      refine any_take (v := .agg #[.bool false, .slice none 0 0, .slice none 0 0, .bool false, .slice none 0 0, .slice none 0 0]) hA 4 rfl rfl rfl rfl (by kernel_rfl) (by kernel_rfl) (by kernel_rfl) (fun c a w h => hP c a _ _ w h) hS (fun w1 hS => does_build rfl (fun w => by kernel_rfl)) ?_
      intro a hA
      refine any_one (by kernel_rfl) (op_call hA 2 rfl rfl rfl rfl (enters_func  rfl rfl (fun w => by kernel_rfl)) (sameQ_any (show Nm _ t.1 p46_1 p46_c1 p46_2 p46_c2 p46_3 p46_c3 p46_4 p46_c4 from ⟨⟨(hS.rd 7 rfl), hn48.s1.nil, hn48.s1.cap⟩, ⟨(hS.rd 6 rfl), hn48.s2.nil, hn48.s2.cap⟩, ⟨(hS.rd 5 rfl), hn48.s3.nil, hn48.s3.cap⟩, ⟨(hS.rd 4 rfl), hn48.s4.nil, hn48.s4.cap⟩⟩) lt1 (show Nm _ Q6.zero none 0 none 0 none 0 none 0 from ⟨(Sc.none _), (Sc.none _), (Sc.none _), (Sc.none _)⟩) lenQ_z (same_zero t.1)) ?_)
      rintro _ w63 ⟨rfl, hb62⟩
      replace hS := hS.call hb62
      refine ⟨_, rfl, hS, ?_⟩
      intro a hA
      refine any_one (by kernel_rfl) (op_call hA 5 rfl rfl rfl rfl (enters_func  rfl rfl (fun w => by kernel_rfl)) (sameQ_any (show Nm _ t.2.1 p47_1 p47_c1 p47_2 p47_c2 p47_3 p47_c3 p47_4 p47_c4 from ⟨⟨(hS.rd 3 rfl), hn49.s1.nil, hn49.s1.cap⟩, ⟨(hS.rd 2 rfl), hn49.s2.nil, hn49.s2.cap⟩, ⟨(hS.rd 1 rfl), hn49.s3.nil, hn49.s3.cap⟩, ⟨(hS.rd 0 rfl), hn49.s4.nil, hn49.s4.cap⟩⟩) lt2 (show Nm _ Q6.zero none 0 none 0 none 0 none 0 from ⟨(Sc.none _), (Sc.none _), (Sc.none _), (Sc.none _)⟩) lenQ_z (same_zero t.2.1)) ?_)
      rintro _ w65 ⟨rfl, hb64⟩
      replace hS := hS.call hb64
      refine ⟨_, rfl, hS, ?_⟩
      intro a hA
      refine any_take (v := .bool true) hA 6 rfl rfl rfl rfl (by kernel_rfl) (by kernel_rfl) (by kernel_rfl) (fun c a w h => hP c a _ _ w h) hS (fun w1 hS => does_bin rfl rfl (bin_eqlB Try.underlying4)) ?_
      intro a hA
      refine any_take hA 7 rfl rfl rfl rfl (by kernel_rfl) (by kernel_rfl) (by kernel_rfl) (fun c a w h => hP c a _ _ w h) hS (fun w1 hS => does_assign rfl) ?_
      intro a hA
      refine any_end (by kernel_rfl) ?_
      refine hK61 _ _ ?_
      refine wp_ret ?_
      refine hret _ _ ?_
      refine ends (v := .bool true) hA rfl (.cons (res_tmp rfl) .nil) rfl ?_
      exact ⟨rfl, hS.bel⟩
    · have hb60' := bne_eq_false_iff_eq.1 hb60
      refine seq_do (v := .bool false) hA rfl rfl rfl (does_bin rfl rfl (fun w => (bin_neq w).trans (by rw [hb60]))) ?_
      intro a hA
      refine seq_end ?_
      refine hK59 _ _ ?_
      refine wp_cond_false (hA.ev rfl) ?_
      refine wp_skip ?_
      refine hK58 _ _ ?_
      refine wp_seq_k (fun K66 hK66 => ?_)
      refine wp_region_lit ?_
      refine seq_do (v := .agg #[.bool t.1.b1, .slice p46_1 t.1.t1.length p46_c1, .slice p46_2 t.1.q1.length p46_c2, .bool t.1.b2, .slice p46_3 t.1.t2.length p46_c3, .slice p46_4 t.1.q2.length p46_c4]) hA rfl rfl rfl (does_loadS hS ExT_isS_26 rfl 1 rfl (cs := [.bool t.1.b1, .slice p46_1 t.1.t1.length p46_c1, .slice p46_2 t.1.q1.length p46_c2, .bool t.1.b2, .slice p46_3 t.1.t2.length p46_c3, .slice p46_4 t.1.q2.length p46_c4]) rfl rfl) ?_
      intro a hA
      refine seq_do (v := .agg #[.bool q.b1, .slice u1 q.t1.length uc1, .slice u2 q.q1.length uc2, .bool q.b2, .slice u3 q.t2.length uc3, .slice u4 q.q2.length uc4]) hA rfl rfl rfl (does_loadS hS ExT_isS_26 rfl 5 rfl (cs := [.bool q.b1, .slice u1 q.t1.length uc1, .slice u2 q.q1.length uc2, .bool q.b2, .slice u3 q.t2.length uc3, .slice u4 q.q2.length uc4]) rfl rfl) ?_
      intro a hA
      refine seq_call hA rfl rfl rfl (enters_func  rfl rfl (fun w => by kernel_rfl)) (mulQ_as (show Nm _ t.1 p46_1 p46_c1 p46_2 p46_c2 p46_3 p46_c3 p46_4 p46_c4 from ⟨⟨(hS.rd 7 rfl), hn48.s1.nil, hn48.s1.cap⟩, ⟨(hS.rd 6 rfl), hn48.s2.nil, hn48.s2.cap⟩, ⟨(hS.rd 5 rfl), hn48.s3.nil, hn48.s3.cap⟩, ⟨(hS.rd 4 rfl), hn48.s4.nil, hn48.s4.cap⟩⟩) lt1 (show Nm _ q u1 uc1 u2 uc2 u3 uc3 u4 uc4 from ⟨⟨(hS.rd 23 rfl), hb.s1.nil, hb.s1.cap⟩, ⟨(hS.rd 22 rfl), hb.s2.nil, hb.s2.cap⟩, ⟨(hS.rd 21 rfl), hb.s3.nil, hb.s3.cap⟩, ⟨(hS.rd 20 rfl), hb.s4.nil, hb.s4.cap⟩⟩) hm e3) ?_
      rintro _ w70 ⟨p67_1, p67_c1, p67_2, p67_c2, p67_3, p67_c3, p67_4, p67_c4, rfl, hn68, hb69⟩
      replace hS := hS.call hb69
      replace hS := hS.addR hn68.s1.rd
      replace hS := hS.addR hn68.s2.rd
      replace hS := hS.addR hn68.s3.rd
      replace hS := hS.addR hn68.s4.rd
      refine ⟨_, rfl, ?_⟩
      intro a hA
      refine seq_do hA rfl rfl rfl (does_move rfl) ?_
      intro a hA
      refine seq_do (v := .agg #[.bool z3.1.b1, .slice p67_1 z3.1.t1.length p67_c1, .slice p67_2 z3.1.q1.length p67_c2, .bool z3.1.b2, .slice p67_3 z3.1.t2.length p67_c3, .slice p67_4 z3.1.q2.length p67_c4]) hA rfl rfl rfl (does_extract (vs := [.agg #[.bool z3.1.b1, .slice p67_1 z3.1.t1.length p67_c1, .slice p67_2 z3.1.q1.length p67_c2, .bool z3.1.b2, .slice p67_3 z3.1.t2.length p67_c3, .slice p67_4 z3.1.q2.length p67_c4], .int .i64 z3.2]) rfl rfl) ?_
      intro a hA
      refine seq_do (v := .int .i64 z3.2) hA rfl rfl rfl (does_extract (vs := [.agg #[.bool z3.1.b1, .slice p67_1 z3.1.t1.length p67_c1, .slice p67_2 z3.1.q1.length p67_c2, .bool z3.1.b2, .slice p67_3 z3.1.t2.length p67_c3, .slice p67_4 z3.1.q2.length p67_c4], .int .i64 z3.2]) rfl rfl) ?_
      intro a hA
      refine seq_new (vs := [.bool false, .slice none 0 0, .slice none 0 0, .bool false, .slice none 0 0, .slice none 0 0]) (t := 26) hA hS rfl rfl rfl (fun g => .pointer (some ⟨g, 0, none⟩)) (does_alloc (z := .agg #[.bool false, .slice none 0 0, .slice none 0 0, .bool false, .slice none 0 0, .slice none 0 0]) (by kernel_rfl) rfl) rfl ?_
      intro g71 w72 hS a hA
      refine seq_store (us := [.bool z3.1.b1, .slice p67_1 z3.1.t1.length p67_c1, .slice p67_2 z3.1.q1.length p67_c2, .bool z3.1.b2, .slice p67_3 z3.1.t2.length p67_c3, .slice p67_4 z3.1.q2.length p67_c4]) hA hS rfl rfl (sets_store (cs := [.bool z3.1.b1, .slice p67_1 z3.1.t1.length p67_c1, .slice p67_2 z3.1.q1.length p67_c2, .bool z3.1.b2, .slice p67_3 z3.1.t2.length p67_c3, .slice p67_4 z3.1.q2.length p67_c4]) rfl rfl rfl (by kernel_rfl) hS 0 rfl rfl rfl) 0 rfl rfl rfl rfl ?_
      intro w73 hS
      refine seq_do hA rfl rfl rfl (does_assign rfl) ?_
      intro a hA
      refine seq_end ?_
      refine hK66 _ _ ?_
      refine wp_seq_k (fun K74 hK74 => ?_)
      refine wp_region_lit ?_
      refine seq_do (v := .agg #[.bool z3.1.b1, .slice p67_1 z3.1.t1.length p67_c1, .slice p67_2 z3.1.q1.length p67_c2, .bool z3.1.b2, .slice p67_3 z3.1.t2.length p67_c3, .slice p67_4 z3.1.q2.length p67_c4]) hA rfl rfl rfl (does_loadS hS ExT_isS_26 rfl 0 rfl (cs := [.bool z3.1.b1, .slice p67_1 z3.1.t1.length p67_c1, .slice p67_2 z3.1.q1.length p67_c2, .bool z3.1.b2, .slice p67_3 z3.1.t2.length p67_c3, .slice p67_4 z3.1.q2.length p67_c4]) rfl rfl) ?_
      intro a hA
      refine seq_do (v := .agg #[.bool t.2.1.b1, .slice p47_1 t.2.1.t1.length p47_c1, .slice p47_2 t.2.1.q1.length p47_c2, .bool t.2.1.b2, .slice p47_3 t.2.1.t2.length p47_c3, .slice p47_4 t.2.1.q2.length p47_c4]) hA rfl rfl rfl (does_loadS hS ExT_isS_26 rfl 1 rfl (cs := [.bool t.2.1.b1, .slice p47_1 t.2.1.t1.length p47_c1, .slice p47_2 t.2.1.q1.length p47_c2, .bool t.2.1.b2, .slice p47_3 t.2.1.t2.length p47_c3, .slice p47_4 t.2.1.q2.length p47_c4]) rfl rfl) ?_
      intro a hA
      refine seq_call hA rfl rfl rfl (enters_func  rfl rfl (fun w => by kernel_rfl)) (addQ_as (show Nm _ z3.1 p67_1 p67_c1 p67_2 p67_c2 p67_3 p67_c3 p67_4 p67_c4 from ⟨⟨(hS.rd 3 rfl), hn68.s1.nil, hn68.s1.cap⟩, ⟨(hS.rd 2 rfl), hn68.s2.nil, hn68.s2.cap⟩, ⟨(hS.rd 1 rfl), hn68.s3.nil, hn68.s3.cap⟩, ⟨(hS.rd 0 rfl), hn68.s4.nil, hn68.s4.cap⟩⟩) l3 (show Nm _ t.2.1 p47_1 p47_c1 p47_2 p47_c2 p47_3 p47_c3 p47_4 p47_c4 from ⟨⟨(hS.rd 7 rfl), hn49.s1.nil, hn49.s1.cap⟩, ⟨(hS.rd 6 rfl), hn49.s2.nil, hn49.s2.cap⟩, ⟨(hS.rd 5 rfl), hn49.s3.nil, hn49.s3.cap⟩, ⟨(hS.rd 4 rfl), hn49.s4.nil, hn49.s4.cap⟩⟩) lt2 e4) ?_
      rintro _ w78 ⟨p75_1, p75_c1, p75_2, p75_c2, p75_3, p75_c3, p75_4, p75_c4, rfl, hn76, hb77⟩
      replace hS := hS.call hb77
      replace hS := hS.addR hn76.s1.rd
      replace hS := hS.addR hn76.s2.rd
      replace hS := hS.addR hn76.s3.rd
      replace hS := hS.addR hn76.s4.rd
      refine ⟨_, rfl, ?_⟩
      intro a hA
      refine seq_do hA rfl rfl rfl (does_move rfl) ?_
      intro a hA
      refine seq_do (v := .agg #[.bool z4.1.b1, .slice p75_1 z4.1.t1.length p75_c1, .slice p75_2 z4.1.q1.length p75_c2, .bool z4.1.b2, .slice p75_3 z4.1.t2.length p75_c3, .slice p75_4 z4.1.q2.length p75_c4]) hA rfl rfl rfl (does_extract (vs := [.agg #[.bool z4.1.b1, .slice p75_1 z4.1.t1.length p75_c1, .slice p75_2 z4.1.q1.length p75_c2, .bool z4.1.b2, .slice p75_3 z4.1.t2.length p75_c3, .slice p75_4 z4.1.q2.length p75_c4], .int .i64 z4.2]) rfl rfl) ?_
      intro a hA
      refine seq_do (v := .int .i64 z4.2) hA rfl rfl rfl (does_extract (vs := [.agg #[.bool z4.1.b1, .slice p75_1 z4.1.t1.length p75_c1, .slice p75_2 z4.1.q1.length p75_c2, .bool z4.1.b2, .slice p75_3 z4.1.t2.length p75_c3, .slice p75_4 z4.1.q2.length p75_c4], .int .i64 z4.2]) rfl rfl) ?_
      intro a hA
      refine seq_new (vs := [.bool false, .slice none 0 0, .slice none 0 0, .bool false, .slice none 0 0, .slice none 0 0]) (t := 26) hA hS rfl rfl rfl (fun g => .pointer (some ⟨g, 0, none⟩)) (does_alloc (z := .agg #[.bool false, .slice none 0 0, .slice none 0 0, .bool false, .slice none 0 0, .slice none 0 0]) (by kernel_rfl) rfl) rfl ?_
      intro g79 w80 hS a hA
      refine seq_store (us := [.bool z4.1.b1, .slice p75_1 z4.1.t1.length p75_c1, .slice p75_2 z4.1.q1.length p75_c2, .bool z4.1.b2, .slice p75_3 z4.1.t2.length p75_c3, .slice p75_4 z4.1.q2.length p75_c4]) hA hS rfl rfl (sets_store (cs := [.bool z4.1.b1, .slice p75_1 z4.1.t1.length p75_c1, .slice p75_2 z4.1.q1.length p75_c2, .bool z4.1.b2, .slice p75_3 z4.1.t2.length p75_c3, .slice p75_4 z4.1.q2.length p75_c4]) rfl rfl rfl (by kernel_rfl) hS 0 rfl rfl rfl) 0 rfl rfl rfl rfl ?_
      intro w81 hS
      refine seq_do hA rfl rfl rfl (does_assign rfl) ?_
      intro a hA
      refine seq_end ?_
      refine hK74 _ _ ?_
      refine wp_seq_k (fun K82 hK82 => ?_)
      refine wp_draw (S := fun w1 => St w w1 [(g79, [.bool z4.1.b1, .slice p75_1 z4.1.t1.length p75_c1, .slice p75_2 z4.1.q1.length p75_c2, .bool z4.1.b2, .slice p75_3 z4.1.t2.length p75_c3, .slice p75_4 z4.1.q2.length p75_c4]), (g71, [.bool z3.1.b1, .slice p67_1 z3.1.t1.length p67_c1, .slice p67_2 z3.1.q1.length p67_c2, .bool z3.1.b2, .slice p67_3 z3.1.t2.length p67_c3, .slice p67_4 z3.1.q2.length p67_c4]), (g54, [.bool t.2.1.b1, .slice p47_1 t.2.1.t1.length p47_c1, .slice p47_2 t.2.1.q1.length p47_c2, .bool t.2.1.b2, .slice p47_3 t.2.1.t2.length p47_c3, .slice p47_4 t.2.1.q2.length p47_c4]), (g52, [.bool t.1.b1, .slice p46_1 t.1.t1.length p46_c1, .slice p46_2 t.1.q1.length p46_c2, .bool t.1.b2, .slice p46_3 t.1.t2.length p46_c3, .slice p46_4 t.1.q2.length p46_c4]), (g31, [.bool z2.1.b1, .slice p27_1 z2.1.t1.length p27_c1, .slice p27_2 z2.1.q1.length p27_c2, .bool z2.1.b2, .slice p27_3 z2.1.t2.length p27_c3, .slice p27_4 z2.1.q2.length p27_c4]), (g23, [.bool z1.1.b1, .slice p19_1 z1.1.t1.length p19_c1, .slice p19_2 z1.1.q1.length p19_c2, .bool z1.1.b2, .slice p19_3 z1.1.t2.length p19_c3, .slice p19_4 z1.1.q2.length p19_c4]), (g6, [.bool r.b1, .slice y1 r.t1.length yc1, .slice y2 r.q1.length yc2, .bool r.b2, .slice y3 r.t2.length yc3, .slice y4 r.q2.length yc4]), (g4, [.bool q.b1, .slice u1 q.t1.length uc1, .slice u2 q.q1.length uc2, .bool q.b2, .slice u3 q.t2.length uc3, .slice u4 q.q2.length uc4]), (g2, [.bool p.b1, .slice a1 p.t1.length ac1, .slice a2 p.q1.length ac2, .bool p.b2, .slice a3 p.t2.length ac3, .slice a4 p.q2.length ac4])] [(p75_4, z4.1.q2), (p75_3, z4.1.t2), (p75_2, z4.1.q1), (p75_1, z4.1.t1), (p67_4, z3.1.q2), (p67_3, z3.1.t2), (p67_2, z3.1.q1), (p67_1, z3.1.t1), (p47_4, t.2.1.q2), (p47_3, t.2.1.t2), (p47_2, t.2.1.q1), (p47_1, t.2.1.t1), (p46_4, t.1.q2), (p46_3, t.1.t2), (p46_2, t.1.q1), (p46_1, t.1.t1), (p27_4, z2.1.q2), (p27_3, z2.1.t2), (p27_2, z2.1.q1), (p27_1, z2.1.t1), (p19_4, z1.1.q2), (p19_3, z1.1.t2), (p19_2, z1.1.q1), (p19_1, z1.1.t1), (y4, r.q2), (y3, r.t2), (y2, r.q1), (y1, r.t1), (u4, q.q2), (u3, q.t2), (u2, q.q1), (u1, q.t1), (a4, p.q2), (a3, p.t2), (a2, p.q1), (a1, p.t1)] []) (by kernel_rfl) ?_
      replace hS := hS.drew
      refine any_take (v := .agg #[.bool t.2.1.b1, .slice p47_1 t.2.1.t1.length p47_c1, .slice p47_2 t.2.1.q1.length p47_c2, .bool t.2.1.b2, .slice p47_3 t.2.1.t2.length p47_c3, .slice p47_4 t.2.1.q2.length p47_c4]) hA 0 rfl rfl rfl rfl (by kernel_rfl) (by kernel_rfl) (by kernel_rfl) (fun c a w h => hP c a _ _ w h) hS (fun w1 hS => does_loadS hS ExT_isS_26 rfl 2 rfl (cs := [.bool t.2.1.b1, .slice p47_1 t.2.1.t1.length p47_c1, .slice p47_2 t.2.1.q1.length p47_c2, .bool t.2.1.b2, .slice p47_3 t.2.1.t2.length p47_c3, .slice p47_4 t.2.1.q2.length p47_c4]) rfl rfl) ?_
      intro a hA
      refine any_one (by kernel_rfl) (op_call hA 1 rfl rfl rfl rfl (enters_func  rfl rfl (fun w => by kernel_rfl)) ((show Calls Try.prog 13 #[.int .i64 (0)] _ (AnsV _ (Q6.whole false 0)) from intP_any (k := 0) (by decide))) ?_)
      rintro _ w86 ⟨p83_1, p83_c1, p83_2, p83_c2, p83_3, p83_c3, p83_4, p83_c4, rfl, hn84, hb85⟩
      replace hS := hS.call hb85
      replace hS := hS.addR hn84.s1.rd
      replace hS := hS.addR hn84.s2.rd
      replace hS := hS.addR hn84.s3.rd
      replace hS := hS.addR hn84.s4.rd
      refine ⟨_, rfl, (hS.partD (.refl _) 4 rfl (.refl _)), ?_⟩
      intro a hA
      refine any_one (by kernel_rfl) (op_call hA 2 rfl rfl rfl rfl (enters_func  rfl rfl (fun w => by kernel_rfl)) (cmpQ_as (show Nm _ t.2.1 p47_1 p47_c1 p47_2 p47_c2 p47_3 p47_c3 p47_4 p47_c4 from ⟨⟨(hS.rd 15 rfl), hn49.s1.nil, hn49.s1.cap⟩, ⟨(hS.rd 14 rfl), hn49.s2.nil, hn49.s2.cap⟩, ⟨(hS.rd 13 rfl), hn49.s3.nil, hn49.s3.cap⟩, ⟨(hS.rd 12 rfl), hn49.s4.nil, hn49.s4.cap⟩⟩) lt2 (show Nm _ (Q6.whole false 0) p83_1 p83_c1 p83_2 p83_c2 p83_3 p83_c3 p83_4 p83_c4 from ⟨⟨(hS.rd 3 rfl), hn84.s1.nil, hn84.s1.cap⟩, ⟨(hS.rd 2 rfl), hn84.s2.nil, hn84.s2.cap⟩, ⟨(hS.rd 1 rfl), hn84.s3.nil, hn84.s3.cap⟩, ⟨(hS.rd 0 rfl), hn84.s4.nil, hn84.s4.cap⟩⟩) (lenQ_whole zero_len) d4) ?_)
      rintro _ w88 ⟨rfl, hb87⟩
      replace hS := hS.call hb87
      refine ⟨_, rfl, (hS.partD (.refl _) 4 rfl (.refl _)), ?_⟩
      intro a hA
      refine any_take hA 3 rfl rfl rfl rfl (by kernel_rfl) (by kernel_rfl) (by kernel_rfl) (fun c a w h => hP c a _ _ w h) (hS.partD (.refl _) 4 rfl (.refl _)) (fun w1 hS => does_move rfl) ?_
      intro a hA
      refine any_take (v := .int .i64 c4.1) hA 4 rfl rfl rfl rfl (by kernel_rfl) (by kernel_rfl) (by kernel_rfl) (fun c a w h => hP c a _ _ w h) (hS.partD (.refl _) 4 rfl (.refl _)) (fun w1 hS => does_extract (vs := [.int .i64 c4.1, .int .i64 c4.2]) rfl rfl) ?_
      intro a hA
      refine any_take (v := .int .i64 c4.2) hA 5 rfl rfl rfl rfl (by kernel_rfl) (by kernel_rfl) (by kernel_rfl) (fun c a w h => hP c a _ _ w h) (hS.partD (.refl _) 4 rfl (.refl _)) (fun w1 hS => does_extract (vs := [.int .i64 c4.1, .int .i64 c4.2]) rfl rfl) ?_
      intro a hA
      refine any_take hA 6 rfl rfl rfl rfl (by kernel_rfl) (by kernel_rfl) (by kernel_rfl) (fun c a w h => hP c a _ _ w h) (hS.partD (.refl _) 4 rfl (.refl _)) (fun w1 hS => does_assign rfl) ?_
      intro a hA
      refine any_take hA 7 rfl rfl rfl rfl (by kernel_rfl) (by kernel_rfl) (by kernel_rfl) (fun c a w h => hP c a _ _ w h) (hS.partD (.refl _) 4 rfl (.refl _)) (fun w1 hS => does_assign rfl) ?_
      intro a hA
      refine any_end (by kernel_rfl) ?_
      refine hK82 _ _ ?_
      refine wp_seq_k (fun K89 hK89 => ?_)
      refine wp_draw (S := fun w1 => St w w1 [(g79, [.bool z4.1.b1, .slice p75_1 z4.1.t1.length p75_c1, .slice p75_2 z4.1.q1.length p75_c2, .bool z4.1.b2, .slice p75_3 z4.1.t2.length p75_c3, .slice p75_4 z4.1.q2.length p75_c4]), (g71, [.bool z3.1.b1, .slice p67_1 z3.1.t1.length p67_c1, .slice p67_2 z3.1.q1.length p67_c2, .bool z3.1.b2, .slice p67_3 z3.1.t2.length p67_c3, .slice p67_4 z3.1.q2.length p67_c4]), (g54, [.bool t.2.1.b1, .slice p47_1 t.2.1.t1.length p47_c1, .slice p47_2 t.2.1.q1.length p47_c2, .bool t.2.1.b2, .slice p47_3 t.2.1.t2.length p47_c3, .slice p47_4 t.2.1.q2.length p47_c4]), (g52, [.bool t.1.b1, .slice p46_1 t.1.t1.length p46_c1, .slice p46_2 t.1.q1.length p46_c2, .bool t.1.b2, .slice p46_3 t.1.t2.length p46_c3, .slice p46_4 t.1.q2.length p46_c4]), (g31, [.bool z2.1.b1, .slice p27_1 z2.1.t1.length p27_c1, .slice p27_2 z2.1.q1.length p27_c2, .bool z2.1.b2, .slice p27_3 z2.1.t2.length p27_c3, .slice p27_4 z2.1.q2.length p27_c4]), (g23, [.bool z1.1.b1, .slice p19_1 z1.1.t1.length p19_c1, .slice p19_2 z1.1.q1.length p19_c2, .bool z1.1.b2, .slice p19_3 z1.1.t2.length p19_c3, .slice p19_4 z1.1.q2.length p19_c4]), (g6, [.bool r.b1, .slice y1 r.t1.length yc1, .slice y2 r.q1.length yc2, .bool r.b2, .slice y3 r.t2.length yc3, .slice y4 r.q2.length yc4]), (g4, [.bool q.b1, .slice u1 q.t1.length uc1, .slice u2 q.q1.length uc2, .bool q.b2, .slice u3 q.t2.length uc3, .slice u4 q.q2.length uc4]), (g2, [.bool p.b1, .slice a1 p.t1.length ac1, .slice a2 p.q1.length ac2, .bool p.b2, .slice a3 p.t2.length ac3, .slice a4 p.q2.length ac4])] [(p83_4, [1]), (p83_3, []), (p83_2, [1]), (p83_1, words 0), (p75_4, z4.1.q2), (p75_3, z4.1.t2), (p75_2, z4.1.q1), (p75_1, z4.1.t1), (p67_4, z3.1.q2), (p67_3, z3.1.t2), (p67_2, z3.1.q1), (p67_1, z3.1.t1), (p47_4, t.2.1.q2), (p47_3, t.2.1.t2), (p47_2, t.2.1.q1), (p47_1, t.2.1.t1), (p46_4, t.1.q2), (p46_3, t.1.t2), (p46_2, t.1.q1), (p46_1, t.1.t1), (p27_4, z2.1.q2), (p27_3, z2.1.t2), (p27_2, z2.1.q1), (p27_1, z2.1.t1), (p19_4, z1.1.q2), (p19_3, z1.1.t2), (p19_2, z1.1.q1), (p19_1, z1.1.t1), (y4, r.q2), (y3, r.t2), (y2, r.q1), (y1, r.t1), (u4, q.q2), (u3, q.t2), (u2, q.q1), (u1, q.t1), (a4, p.q2), (a3, p.t2), (a2, p.q1), (a1, p.t1)] []) (by kernel_rfl) ?_
      replace hS := hS.drew
      refine any_take (v := .agg #[.bool q.b1, .slice u1 q.t1.length uc1, .slice u2 q.q1.length uc2, .bool q.b2, .slice u3 q.t2.length uc3, .slice u4 q.q2.length uc4]) hA 0 rfl rfl rfl rfl (by kernel_rfl) (by kernel_rfl) (by kernel_rfl) (fun c a w h => hP c a _ _ w h) hS (fun w1 hS => does_loadS hS ExT_isS_26 rfl 7 rfl (cs := [.bool q.b1, .slice u1 q.t1.length uc1, .slice u2 q.q1.length uc2, .bool q.b2, .slice u3 q.t2.length uc3, .slice u4 q.q2.length uc4]) rfl rfl) ?_
      intro a hA
      refine any_one (by kernel_rfl) (op_call hA 1 rfl rfl rfl rfl (enters_func  rfl rfl (fun w => by kernel_rfl)) ((show Calls Try.prog 13 #[.int .i64 (0)] _ (AnsV _ (Q6.whole false 0)) from intP_any (k := 0) (by decide))) ?_)
      rintro _ w93 ⟨p90_1, p90_c1, p90_2, p90_c2, p90_3, p90_c3, p90_4, p90_c4, rfl, hn91, hb92⟩
      replace hS := hS.call hb92
      replace hS := hS.addR hn91.s1.rd
      replace hS := hS.addR hn91.s2.rd
      replace hS := hS.addR hn91.s3.rd
      replace hS := hS.addR hn91.s4.rd
      refine ⟨_, rfl, (hS.partD (.refl _) 4 rfl (.refl _)), ?_⟩
      intro a hA
      refine any_one (by kernel_rfl) (op_call hA 2 rfl rfl rfl rfl (enters_func  rfl rfl (fun w => by kernel_rfl)) (cmpQ_as (show Nm _ q u1 uc1 u2 uc2 u3 uc3 u4 uc4 from ⟨⟨(hS.rd 39 rfl), hb.s1.nil, hb.s1.cap⟩, ⟨(hS.rd 38 rfl), hb.s2.nil, hb.s2.cap⟩, ⟨(hS.rd 37 rfl), hb.s3.nil, hb.s3.cap⟩, ⟨(hS.rd 36 rfl), hb.s4.nil, hb.s4.cap⟩⟩) hm (show Nm _ (Q6.whole false 0) p90_1 p90_c1 p90_2 p90_c2 p90_3 p90_c3 p90_4 p90_c4 from ⟨⟨(hS.rd 3 rfl), hn91.s1.nil, hn91.s1.cap⟩, ⟨(hS.rd 2 rfl), hn91.s2.nil, hn91.s2.cap⟩, ⟨(hS.rd 1 rfl), hn91.s3.nil, hn91.s3.cap⟩, ⟨(hS.rd 0 rfl), hn91.s4.nil, hn91.s4.cap⟩⟩) (lenQ_whole zero_len) d5) ?_)
      rintro _ w95 ⟨rfl, hb94⟩
      replace hS := hS.call hb94
      refine ⟨_, rfl, (hS.partD (.refl _) 4 rfl (.refl _)), ?_⟩
      intro a hA
      refine any_take hA 3 rfl rfl rfl rfl (by kernel_rfl) (by kernel_rfl) (by kernel_rfl) (fun c a w h => hP c a _ _ w h) (hS.partD (.refl _) 4 rfl (.refl _)) (fun w1 hS => does_move rfl) ?_
      intro a hA
      refine any_take (v := .int .i64 c5.1) hA 4 rfl rfl rfl rfl (by kernel_rfl) (by kernel_rfl) (by kernel_rfl) (fun c a w h => hP c a _ _ w h) (hS.partD (.refl _) 4 rfl (.refl _)) (fun w1 hS => does_extract (vs := [.int .i64 c5.1, .int .i64 c5.2]) rfl rfl) ?_
      intro a hA
      refine any_take (v := .int .i64 c5.2) hA 5 rfl rfl rfl rfl (by kernel_rfl) (by kernel_rfl) (by kernel_rfl) (fun c a w h => hP c a _ _ w h) (hS.partD (.refl _) 4 rfl (.refl _)) (fun w1 hS => does_extract (vs := [.int .i64 c5.1, .int .i64 c5.2]) rfl rfl) ?_
      intro a hA
      refine any_take hA 6 rfl rfl rfl rfl (by kernel_rfl) (by kernel_rfl) (by kernel_rfl) (fun c a w h => hP c a _ _ w h) (hS.partD (.refl _) 4 rfl (.refl _)) (fun w1 hS => does_assign rfl) ?_
      intro a hA
      refine any_take hA 7 rfl rfl rfl rfl (by kernel_rfl) (by kernel_rfl) (by kernel_rfl) (fun c a w h => hP c a _ _ w h) (hS.partD (.refl _) 4 rfl (.refl _)) (fun w1 hS => does_assign rfl) ?_
      intro a hA
      refine any_end (by kernel_rfl) ?_
      refine hK89 _ _ ?_
      refine wp_seq_k (fun K96 hK96 => ?_)
      refine wp_region_lit ?_
      refine seq_do (v := .agg #[.bool q.b1, .slice u1 q.t1.length uc1, .slice u2 q.q1.length uc2, .bool q.b2, .slice u3 q.t2.length uc3, .slice u4 q.q2.length uc4]) hA rfl rfl rfl (does_loadS hS ExT_isS_26 rfl 7 rfl (cs := [.bool q.b1, .slice u1 q.t1.length uc1, .slice u2 q.q1.length uc2, .bool q.b2, .slice u3 q.t2.length uc3, .slice u4 q.q2.length uc4]) rfl rfl) ?_
      intro a hA
      refine seq_new (vs := [.bool false, .slice none 0 0, .slice none 0 0, .bool false, .slice none 0 0, .slice none 0 0]) (t := 26) hA hS rfl rfl rfl (fun g => .pointer (some ⟨g, 0, none⟩)) (does_alloc (z := .agg #[.bool false, .slice none 0 0, .slice none 0 0, .bool false, .slice none 0 0, .slice none 0 0]) (by kernel_rfl) rfl) rfl ?_
      intro g97 w98 hS a hA
      refine seq_store (us := [.bool q.b1, .slice u1 q.t1.length uc1, .slice u2 q.q1.length uc2, .bool q.b2, .slice u3 q.t2.length uc3, .slice u4 q.q2.length uc4]) hA hS rfl rfl (sets_store (cs := [.bool q.b1, .slice u1 q.t1.length uc1, .slice u2 q.q1.length uc2, .bool q.b2, .slice u3 q.t2.length uc3, .slice u4 q.q2.length uc4]) rfl rfl rfl (by kernel_rfl) hS 0 rfl rfl rfl) 0 rfl rfl rfl rfl ?_
      intro w99 hS
      refine seq_end ?_
      refine hK96 _ _ ?_
      refine wp_seq_k (fun K100 hK100 => ?_)
      refine wp_seq_k (fun K101 hK101 => ?_)
      refine wp_region_lit ?_
      refine seq_do hA rfl rfl rfl (does_move rfl) ?_
      intro a hA
      rcases Bool.eq_false_or_eq_true (decide (c5.1 < 0)) with hb102 | hb102
      · have hb102' := of_decide_eq_true hb102
        refine seq_do (v := .bool true) hA rfl rfl rfl (does_bin rfl rfl (fun w => (bin_lss w).trans (by rw [hb102]))) ?_
        intro a hA
        refine seq_end ?_
        refine hK101 _ _ ?_
        refine wp_cond_true (hA.ev rfl) ?_
        refine wp_draw (S := fun w1 => St w w1 [(g79, [.bool z4.1.b1, .slice p75_1 z4.1.t1.length p75_c1, .slice p75_2 z4.1.q1.length p75_c2, .bool z4.1.b2, .slice p75_3 z4.1.t2.length p75_c3, .slice p75_4 z4.1.q2.length p75_c4]), (g71, [.bool z3.1.b1, .slice p67_1 z3.1.t1.length p67_c1, .slice p67_2 z3.1.q1.length p67_c2, .bool z3.1.b2, .slice p67_3 z3.1.t2.length p67_c3, .slice p67_4 z3.1.q2.length p67_c4]), (g54, [.bool t.2.1.b1, .slice p47_1 t.2.1.t1.length p47_c1, .slice p47_2 t.2.1.q1.length p47_c2, .bool t.2.1.b2, .slice p47_3 t.2.1.t2.length p47_c3, .slice p47_4 t.2.1.q2.length p47_c4]), (g52, [.bool t.1.b1, .slice p46_1 t.1.t1.length p46_c1, .slice p46_2 t.1.q1.length p46_c2, .bool t.1.b2, .slice p46_3 t.1.t2.length p46_c3, .slice p46_4 t.1.q2.length p46_c4]), (g31, [.bool z2.1.b1, .slice p27_1 z2.1.t1.length p27_c1, .slice p27_2 z2.1.q1.length p27_c2, .bool z2.1.b2, .slice p27_3 z2.1.t2.length p27_c3, .slice p27_4 z2.1.q2.length p27_c4]), (g23, [.bool z1.1.b1, .slice p19_1 z1.1.t1.length p19_c1, .slice p19_2 z1.1.q1.length p19_c2, .bool z1.1.b2, .slice p19_3 z1.1.t2.length p19_c3, .slice p19_4 z1.1.q2.length p19_c4]), (g6, [.bool r.b1, .slice y1 r.t1.length yc1, .slice y2 r.q1.length yc2, .bool r.b2, .slice y3 r.t2.length yc3, .slice y4 r.q2.length yc4]), (g4, [.bool q.b1, .slice u1 q.t1.length uc1, .slice u2 q.q1.length uc2, .bool q.b2, .slice u3 q.t2.length uc3, .slice u4 q.q2.length uc4]), (g2, [.bool p.b1, .slice a1 p.t1.length ac1, .slice a2 p.q1.length ac2, .bool p.b2, .slice a3 p.t2.length ac3, .slice a4 p.q2.length ac4])] [(p90_4, [1]), (p90_3, []), (p90_2, [1]), (p90_1, words 0), (p83_4, [1]), (p83_3, []), (p83_2, [1]), (p83_1, words 0), (p75_4, z4.1.q2), (p75_3, z4.1.t2), (p75_2, z4.1.q1), (p75_1, z4.1.t1), (p67_4, z3.1.q2), (p67_3, z3.1.t2), (p67_2, z3.1.q1), (p67_1, z3.1.t1), (p47_4, t.2.1.q2), (p47_3, t.2.1.t2), (p47_2, t.2.1.q1), (p47_1, t.2.1.t1), (p46_4, t.1.q2), (p46_3, t.1.t2), (p46_2, t.1.q1), (p46_1, t.1.t1), (p27_4, z2.1.q2), (p27_3, z2.1.t2), (p27_2, z2.1.q1), (p27_1, z2.1.t1), (p19_4, z1.1.q2), (p19_3, z1.1.t2), (p19_2, z1.1.q1), (p19_1, z1.1.t1), (y4, r.q2), (y3, r.t2), (y2, r.q1), (y1, r.t1), (u4, q.q2), (u3, q.t2), (u2, q.q1), (u1, q.t1), (a4, p.q2), (a3, p.t2), (a2, p.q1), (a1, p.t1)] []) (by kernel_rfl) ?_
        replace hS := hS.drew
        refine any_take (v := .agg #[.bool q.b1, .slice u1 q.t1.length uc1, .slice u2 q.q1.length uc2, .bool q.b2, .slice u3 q.t2.length uc3, .slice u4 q.q2.length uc4]) hA 1 rfl rfl rfl rfl (by kernel_rfl) (by kernel_rfl) (by kernel_rfl) (fun c a w h => hP c a _ _ w h) (hS.partD (.cons _ (.cons_cons _ (.cons_cons _ (.cons_cons _ (.cons_cons _ (.cons_cons _ (.cons_cons _ (.cons_cons _ (.cons_cons _ (.cons_cons _ .slnil)))))))))) 0 rfl (.refl _)) (fun w1 hS => does_loadS hS ExT_isS_26 rfl 7 rfl (cs := [.bool q.b1, .slice u1 q.t1.length uc1, .slice u2 q.q1.length uc2, .bool q.b2, .slice u3 q.t2.length uc3, .slice u4 q.q2.length uc4]) rfl rfl) ?_
        intro a hA
        refine any_one (by kernel_rfl) (op_call hA 0 rfl rfl rfl rfl (enters_func  rfl rfl (fun w => by kernel_rfl)) ((show Calls Try.prog 13 #[.int .i64 (0)] _ (AnsV _ (Q6.whole false 0)) from intP_any (k := 0) (by decide))) ?_)
        rintro _ w106 ⟨p103_1, p103_c1, p103_2, p103_c2, p103_3, p103_c3, p103_4, p103_c4, rfl, hn104, hb105⟩
        replace hS := hS.call hb105
        replace hS := hS.addR hn104.s1.rd
        replace hS := hS.addR hn104.s2.rd
        replace hS := hS.addR hn104.s3.rd
        replace hS := hS.addR hn104.s4.rd
        refine ⟨_, rfl, (hS.partD (.cons _ (.cons_cons _ (.cons_cons _ (.cons_cons _ (.cons_cons _ (.cons_cons _ (.cons_cons _ (.cons_cons _ (.cons_cons _ (.cons_cons _ .slnil)))))))))) 4 rfl (.refl _)), ?_⟩
        intro a hA
        refine any_one (by kernel_rfl) (op_call hA 2 rfl rfl rfl rfl (enters_func  rfl rfl (fun w => by kernel_rfl)) (subQ_as (show Nm _ (Q6.whole false 0) p103_1 p103_c1 p103_2 p103_c2 p103_3 p103_c3 p103_4 p103_c4 from ⟨⟨(hS.rd 3 rfl), hn104.s1.nil, hn104.s1.cap⟩, ⟨(hS.rd 2 rfl), hn104.s2.nil, hn104.s2.cap⟩, ⟨(hS.rd 1 rfl), hn104.s3.nil, hn104.s3.cap⟩, ⟨(hS.rd 0 rfl), hn104.s4.nil, hn104.s4.cap⟩⟩) (lenQ_whole zero_len) (show Nm _ q u1 uc1 u2 uc2 u3 uc3 u4 uc4 from ⟨⟨(hS.rd 43 rfl), hb.s1.nil, hb.s1.cap⟩, ⟨(hS.rd 42 rfl), hb.s2.nil, hb.s2.cap⟩, ⟨(hS.rd 41 rfl), hb.s3.nil, hb.s3.cap⟩, ⟨(hS.rd 40 rfl), hb.s4.nil, hb.s4.cap⟩⟩) hm e5) ?_)
        rintro _ w110 ⟨p107_1, p107_c1, p107_2, p107_c2, p107_3, p107_c3, p107_4, p107_c4, rfl, hn108, hb109⟩
        replace hS := hS.call hb109
        replace hS := hS.addR hn108.s1.rd
        replace hS := hS.addR hn108.s2.rd
        replace hS := hS.addR hn108.s3.rd
        replace hS := hS.addR hn108.s4.rd
        refine ⟨_, rfl, (hS.partD (.cons _ (.cons_cons _ (.cons_cons _ (.cons_cons _ (.cons_cons _ (.cons_cons _ (.cons_cons _ (.cons_cons _ (.cons_cons _ (.cons_cons _ .slnil)))))))))) 8 rfl (.refl _)), ?_⟩
        intro a hA
        refine any_take hA 3 rfl rfl rfl rfl (by kernel_rfl) (by kernel_rfl) (by kernel_rfl) (fun c a w h => hP c a _ _ w h) (hS.partD (.cons _ (.cons_cons _ (.cons_cons _ (.cons_cons _ (.cons_cons _ (.cons_cons _ (.cons_cons _ (.cons_cons _ (.cons_cons _ (.cons_cons _ .slnil)))))))))) 8 rfl (.refl _)) (fun w1 hS => does_move rfl) ?_
        intro a hA
        refine any_take (v := .agg #[.bool z5.1.b1, .slice p107_1 z5.1.t1.length p107_c1, .slice p107_2 z5.1.q1.length p107_c2, .bool z5.1.b2, .slice p107_3 z5.1.t2.length p107_c3, .slice p107_4 z5.1.q2.length p107_c4]) hA 4 rfl rfl rfl rfl (by kernel_rfl) (by kernel_rfl) (by kernel_rfl) (fun c a w h => hP c a _ _ w h) (hS.partD (.cons _ (.cons_cons _ (.cons_cons _ (.cons_cons _ (.cons_cons _ (.cons_cons _ (.cons_cons _ (.cons_cons _ (.cons_cons _ (.cons_cons _ .slnil)))))))))) 8 rfl (.refl _)) (fun w1 hS => does_extract (vs := [.agg #[.bool z5.1.b1, .slice p107_1 z5.1.t1.length p107_c1, .slice p107_2 z5.1.q1.length p107_c2, .bool z5.1.b2, .slice p107_3 z5.1.t2.length p107_c3, .slice p107_4 z5.1.q2.length p107_c4], .int .i64 z5.2]) rfl rfl) ?_
        intro a hA
        refine any_take (v := .int .i64 z5.2) hA 5 rfl rfl rfl rfl (by kernel_rfl) (by kernel_rfl) (by kernel_rfl) (fun c a w h => hP c a _ _ w h) (hS.partD (.cons _ (.cons_cons _ (.cons_cons _ (.cons_cons _ (.cons_cons _ (.cons_cons _ (.cons_cons _ (.cons_cons _ (.cons_cons _ (.cons_cons _ .slnil)))))))))) 8 rfl (.refl _)) (fun w1 hS => does_extract (vs := [.agg #[.bool z5.1.b1, .slice p107_1 z5.1.t1.length p107_c1, .slice p107_2 z5.1.q1.length p107_c2, .bool z5.1.b2, .slice p107_3 z5.1.t2.length p107_c3, .slice p107_4 z5.1.q2.length p107_c4], .int .i64 z5.2]) rfl rfl) ?_
        intro a hA
        refine any_one (by kernel_rfl) (op_store (us := [.bool z5.1.b1, .slice p107_1 z5.1.t1.length p107_c1, .slice p107_2 z5.1.q1.length p107_c2, .bool z5.1.b2, .slice p107_3 z5.1.t2.length p107_c3, .slice p107_4 z5.1.q2.length p107_c4]) hA hS 6 rfl rfl rfl (sets_store (cs := [.bool z5.1.b1, .slice p107_1 z5.1.t1.length p107_c1, .slice p107_2 z5.1.q1.length p107_c2, .bool z5.1.b2, .slice p107_3 z5.1.t2.length p107_c3, .slice p107_4 z5.1.q2.length p107_c4]) rfl rfl rfl (by kernel_rfl) hS 0 rfl rfl rfl) 0 rfl rfl rfl rfl ?_)
        intro w111 hS
        refine ⟨(hS.partD (.cons _ (.cons_cons _ (.cons_cons _ (.cons_cons _ (.cons_cons _ (.cons_cons _ (.cons_cons _ (.cons_cons _ (.cons_cons _ (.cons_cons _ .slnil)))))))))) 8 rfl (.refl _)), ?_⟩
        refine any_end (by kernel_rfl) ?_
        refine hK100 _ _ ?_
        refine wp_seq_k (fun K112 hK112 => ?_)
        refine wp_region_lit ?_
        refine seq_do (v := .agg #[.bool t.2.1.b1, .slice p47_1 t.2.1.t1.length p47_c1, .slice p47_2 t.2.1.q1.length p47_c2, .bool t.2.1.b2, .slice p47_3 t.2.1.t2.length p47_c3, .slice p47_4 t.2.1.q2.length p47_c4]) hA rfl rfl rfl (does_loadS hS ExT_isS_26 rfl 3 rfl (cs := [.bool t.2.1.b1, .slice p47_1 t.2.1.t1.length p47_c1, .slice p47_2 t.2.1.q1.length p47_c2, .bool t.2.1.b2, .slice p47_3 t.2.1.t2.length p47_c3, .slice p47_4 t.2.1.q2.length p47_c4]) rfl rfl) ?_
        intro a hA
        refine seq_do (v := .agg #[.bool z5.1.b1, .slice p107_1 z5.1.t1.length p107_c1, .slice p107_2 z5.1.q1.length p107_c2, .bool z5.1.b2, .slice p107_3 z5.1.t2.length p107_c3, .slice p107_4 z5.1.q2.length p107_c4]) hA rfl rfl rfl (does_loadS hS ExT_isS_26 rfl 0 rfl (cs := [.bool z5.1.b1, .slice p107_1 z5.1.t1.length p107_c1, .slice p107_2 z5.1.q1.length p107_c2, .bool z5.1.b2, .slice p107_3 z5.1.t2.length p107_c3, .slice p107_4 z5.1.q2.length p107_c4]) rfl rfl) ?_
        intro a hA
        refine seq_call hA rfl rfl rfl (enters_func  rfl rfl (fun w => by kernel_rfl)) (cmpQ_as (show Nm _ t.2.1 p47_1 p47_c1 p47_2 p47_c2 p47_3 p47_c3 p47_4 p47_c4 from ⟨⟨(hS.rd 27 rfl), hn49.s1.nil, hn49.s1.cap⟩, ⟨(hS.rd 26 rfl), hn49.s2.nil, hn49.s2.cap⟩, ⟨(hS.rd 25 rfl), hn49.s3.nil, hn49.s3.cap⟩, ⟨(hS.rd 24 rfl), hn49.s4.nil, hn49.s4.cap⟩⟩) lt2 (show Nm _ z5.1 p107_1 p107_c1 p107_2 p107_c2 p107_3 p107_c3 p107_4 p107_c4 from ⟨⟨(hS.rd 3 rfl), hn108.s1.nil, hn108.s1.cap⟩, ⟨(hS.rd 2 rfl), hn108.s2.nil, hn108.s2.cap⟩, ⟨(hS.rd 1 rfl), hn108.s3.nil, hn108.s3.cap⟩, ⟨(hS.rd 0 rfl), hn108.s4.nil, hn108.s4.cap⟩⟩) l5 d6) ?_
        rintro _ w114 ⟨rfl, hb113⟩
        replace hS := hS.call hb113
        refine ⟨_, rfl, ?_⟩
        intro a hA
        refine seq_do hA rfl rfl rfl (does_move rfl) ?_
        intro a hA
        refine seq_do (v := .int .i64 c6.1) hA rfl rfl rfl (does_extract (vs := [.int .i64 c6.1, .int .i64 c6.2]) rfl rfl) ?_
        intro a hA
        refine seq_do (v := .int .i64 c6.2) hA rfl rfl rfl (does_extract (vs := [.int .i64 c6.1, .int .i64 c6.2]) rfl rfl) ?_
        intro a hA
        refine seq_do hA rfl rfl rfl (does_assign rfl) ?_
        intro a hA
        refine seq_do hA rfl rfl rfl (does_assign rfl) ?_
        intro a hA
        refine seq_end ?_
        refine hK112 _ _ ?_
        refine wp_seq_k (fun K115 hK115 => ?_)
        refine wp_region_lit ?_
        refine seq_do hA rfl rfl rfl (does_move rfl) ?_
        intro a hA
        rcases Bool.eq_false_or_eq_true ((z3.2 != 0)) with hb116 | hb116
        · have hb116' := bne_iff_ne.1 hb116
          refine seq_do (v := .bool true) hA rfl rfl rfl (does_bin rfl rfl (fun w => (bin_neq w).trans (by rw [hb116]))) ?_
          intro a hA
          refine seq_do hA rfl rfl rfl (does_move rfl) ?_
          intro a hA
          refine seq_skip hA rfl rfl rfl ?_
          intro a hA
          refine seq_skip hA rfl rfl rfl ?_
          intro a hA
          refine seq_do (v := .bool true) hA rfl rfl rfl (does_pick rfl rfl rfl rfl) ?_
          intro a hA
          refine seq_do hA rfl rfl rfl (does_move rfl) ?_
          intro a hA
          refine seq_skip hA rfl rfl rfl ?_
          intro a hA
          refine seq_skip hA rfl rfl rfl ?_
          intro a hA
          refine seq_skip hA rfl rfl rfl ?_
          intro a hA
          refine seq_do (v := .bool true) hA rfl rfl rfl (does_pick rfl rfl rfl rfl) ?_
          intro a hA
          refine seq_do hA rfl rfl rfl (does_move rfl) ?_
          intro a hA
          refine seq_do (v := .agg #[.bool t.1.b1, .slice p46_1 t.1.t1.length p46_c1, .slice p46_2 t.1.q1.length p46_c2, .bool t.1.b2, .slice p46_3 t.1.t2.length p46_c3, .slice p46_4 t.1.q2.length p46_c4]) hA rfl rfl rfl (does_loadS hS ExT_isS_26 rfl 4 rfl (cs := [.bool t.1.b1, .slice p46_1 t.1.t1.length p46_c1, .slice p46_2 t.1.q1.length p46_c2, .bool t.1.b2, .slice p46_3 t.1.t2.length p46_c3, .slice p46_4 t.1.q2.length p46_c4]) rfl rfl) ?_
          intro a hA
          refine seq_call hA rfl rfl rfl (enters_func  rfl rfl (fun w => by kernel_rfl)) (wholeQ_any (show Nm _ t.1 p46_1 p46_c1 p46_2 p46_c2 p46_3 p46_c3 p46_4 p46_c4 from ⟨⟨(hS.rd 31 rfl), hn48.s1.nil, hn48.s1.cap⟩, ⟨(hS.rd 30 rfl), hn48.s2.nil, hn48.s2.cap⟩, ⟨(hS.rd 29 rfl), hn48.s3.nil, hn48.s3.cap⟩, ⟨(hS.rd 28 rfl), hn48.s4.nil, hn48.s4.cap⟩⟩) lt1 (hF4 (bne0 hb60)).2.1) ?_
          rintro _ w118 ⟨rfl, hb117⟩
          replace hS := hS.call hb117
          refine ⟨_, rfl, ?_⟩
          intro a hA
          refine seq_do (v := .bool true) hA rfl rfl rfl (does_pick rfl rfl rfl rfl) ?_
          intro a hA
          refine seq_do hA rfl rfl rfl (does_move rfl) ?_
          intro a hA
          refine seq_do hA rfl rfl rfl (does_move rfl) ?_
          intro a hA
          refine seq_do (v := .bool true) hA rfl rfl rfl (does_bin rfl rfl (fun w => (bin_eql w).trans (by rw [show ((c4.2 == 0)) = true from (beq_iff_eq.2 (hF4 (bne0 hb60)).2.2.1)]))) ?_
          intro a hA
          refine seq_do (v := .bool true) hA rfl rfl rfl (does_pick rfl rfl rfl rfl) ?_
          intro a hA
          refine seq_do hA rfl rfl rfl (does_move rfl) ?_
          intro a hA
          refine seq_do hA rfl rfl rfl (does_move rfl) ?_
          intro a hA
          refine seq_do (v := .bool true) hA rfl rfl rfl (does_bin rfl rfl (fun w => (bin_eql w).trans (by rw [show ((c5.2 == 0)) = true from (beq_iff_eq.2 (hF4 (bne0 hb60)).2.2.2.2.1)]))) ?_
          intro a hA
          refine seq_do (v := .bool true) hA rfl rfl rfl (does_pick rfl rfl rfl rfl) ?_
          intro a hA
          refine seq_do hA rfl rfl rfl (does_move rfl) ?_
          intro a hA
          refine seq_do hA rfl rfl rfl (does_move rfl) ?_
          intro a hA
          refine seq_do (v := .bool true) hA rfl rfl rfl (does_bin rfl rfl (fun w => (bin_eql w).trans (by rw [show ((c6.2 == 0)) = true from (beq_iff_eq.2 ((hF4 (bne0 hb60)).2.2.2.2.2.1 (of_decide_eq_true hb102)).1)]))) ?_
          intro a hA
          refine seq_do (v := .bool true) hA rfl rfl rfl (does_pick rfl rfl rfl rfl) ?_
          intro a hA
          refine seq_do hA rfl rfl rfl (does_move rfl) ?_
          intro a hA
          refine seq_do hA rfl rfl rfl (does_move rfl) ?_
          intro a hA
          refine seq_do (v := .bool true) hA rfl rfl rfl (does_bin rfl rfl (fun w => (bin_geq w).trans (by rw [show (decide (0 ≤ c4.1)) = true from (decide_eq_true (hF4 (bne0 hb60)).2.2.2.1)]))) ?_
          intro a hA
          refine seq_do (v := .bool true) hA rfl rfl rfl (does_pick rfl rfl rfl rfl) ?_
          intro a hA
          refine seq_do hA rfl rfl rfl (does_move rfl) ?_
          intro a hA
          refine seq_do hA rfl rfl rfl (does_move rfl) ?_
          intro a hA
          refine seq_do (v := .bool true) hA rfl rfl rfl (does_bin rfl rfl (fun w => (bin_lss w).trans (by rw [show (decide (c6.1 < 0)) = true from (decide_eq_true ((hF4 (bne0 hb60)).2.2.2.2.2.1 (of_decide_eq_true hb102)).2)]))) ?_
          intro a hA
          refine seq_do (v := .bool true) hA rfl rfl rfl (does_pick rfl rfl rfl rfl) ?_
          intro a hA
          refine seq_do hA rfl rfl rfl (does_assign rfl) ?_
          intro a hA
          refine seq_end ?_
          refine hK115 _ _ ?_
          refine wp_ret ?_
          refine hret _ _ ?_
          refine ends (v := .bool true) hA rfl (.cons (res_tmp rfl) .nil) rfl ?_
          exact ⟨rfl, hS.bel⟩
        · have hb116' := bne_eq_false_iff_eq.1 hb116
          refine seq_do (v := .bool false) hA rfl rfl rfl (does_bin rfl rfl (fun w => (bin_neq w).trans (by rw [hb116]))) ?_
          intro a hA
          refine seq_do hA rfl rfl rfl (does_move rfl) ?_
          intro a hA
          refine seq_do hA rfl rfl rfl (does_move rfl) ?_
          intro a hA
          rcases Bool.eq_false_or_eq_true ((z4.2 != 0)) with hb119 | hb119
          · have hb119' := bne_iff_ne.1 hb119
            refine seq_do (v := .bool true) hA rfl rfl rfl (does_bin rfl rfl (fun w => (bin_neq w).trans (by rw [hb119]))) ?_
            intro a hA
            refine seq_do (v := .bool true) hA rfl rfl rfl (does_pick rfl rfl rfl rfl) ?_
            intro a hA
            refine seq_do hA rfl rfl rfl (does_move rfl) ?_
            intro a hA
            refine seq_skip hA rfl rfl rfl ?_
            intro a hA
            refine seq_skip hA rfl rfl rfl ?_
            intro a hA
            refine seq_skip hA rfl rfl rfl ?_
            intro a hA
            refine seq_do (v := .bool true) hA rfl rfl rfl (does_pick rfl rfl rfl rfl) ?_
            intro a hA
            refine seq_do hA rfl rfl rfl (does_move rfl) ?_
            intro a hA
            refine seq_do (v := .agg #[.bool t.1.b1, .slice p46_1 t.1.t1.length p46_c1, .slice p46_2 t.1.q1.length p46_c2, .bool t.1.b2, .slice p46_3 t.1.t2.length p46_c3, .slice p46_4 t.1.q2.length p46_c4]) hA rfl rfl rfl (does_loadS hS ExT_isS_26 rfl 4 rfl (cs := [.bool t.1.b1, .slice p46_1 t.1.t1.length p46_c1, .slice p46_2 t.1.q1.length p46_c2, .bool t.1.b2, .slice p46_3 t.1.t2.length p46_c3, .slice p46_4 t.1.q2.length p46_c4]) rfl rfl) ?_
            intro a hA
            refine seq_call hA rfl rfl rfl (enters_func  rfl rfl (fun w => by kernel_rfl)) (wholeQ_any (show Nm _ t.1 p46_1 p46_c1 p46_2 p46_c2 p46_3 p46_c3 p46_4 p46_c4 from ⟨⟨(hS.rd 31 rfl), hn48.s1.nil, hn48.s1.cap⟩, ⟨(hS.rd 30 rfl), hn48.s2.nil, hn48.s2.cap⟩, ⟨(hS.rd 29 rfl), hn48.s3.nil, hn48.s3.cap⟩, ⟨(hS.rd 28 rfl), hn48.s4.nil, hn48.s4.cap⟩⟩) lt1 (hF4 (bne0 hb60)).2.1) ?_
            rintro _ w121 ⟨rfl, hb120⟩
            replace hS := hS.call hb120
            refine ⟨_, rfl, ?_⟩
            intro a hA
            refine seq_do (v := .bool true) hA rfl rfl rfl (does_pick rfl rfl rfl rfl) ?_
            intro a hA
            refine seq_do hA rfl rfl rfl (does_move rfl) ?_
            intro a hA
            refine seq_do hA rfl rfl rfl (does_move rfl) ?_
            intro a hA
            refine seq_do (v := .bool true) hA rfl rfl rfl (does_bin rfl rfl (fun w => (bin_eql w).trans (by rw [show ((c4.2 == 0)) = true from (beq_iff_eq.2 (hF4 (bne0 hb60)).2.2.1)]))) ?_
            intro a hA
            refine seq_do (v := .bool true) hA rfl rfl rfl (does_pick rfl rfl rfl rfl) ?_
            intro a hA
            refine seq_do hA rfl rfl rfl (does_move rfl) ?_
            intro a hA
            refine seq_do hA rfl rfl rfl (does_move rfl) ?_
            intro a hA
            refine seq_do (v := .bool true) hA rfl rfl rfl (does_bin rfl rfl (fun w => (bin_eql w).trans (by rw [show ((c5.2 == 0)) = true from (beq_iff_eq.2 (hF4 (bne0 hb60)).2.2.2.2.1)]))) ?_
            intro a hA
            refine seq_do (v := .bool true) hA rfl rfl rfl (does_pick rfl rfl rfl rfl) ?_
            intro a hA
            refine seq_do hA rfl rfl rfl (does_move rfl) ?_
            intro a hA
            refine seq_do hA rfl rfl rfl (does_move rfl) ?_
            intro a hA
            refine seq_do (v := .bool true) hA rfl rfl rfl (does_bin rfl rfl (fun w => (bin_eql w).trans (by rw [show ((c6.2 == 0)) = true from (beq_iff_eq.2 ((hF4 (bne0 hb60)).2.2.2.2.2.1 (of_decide_eq_true hb102)).1)]))) ?_
            intro a hA
            refine seq_do (v := .bool true) hA rfl rfl rfl (does_pick rfl rfl rfl rfl) ?_
            intro a hA
            refine seq_do hA rfl rfl rfl (does_move rfl) ?_
            intro a hA
            refine seq_do hA rfl rfl rfl (does_move rfl) ?_
            intro a hA
            refine seq_do (v := .bool true) hA rfl rfl rfl (does_bin rfl rfl (fun w => (bin_geq w).trans (by rw [show (decide (0 ≤ c4.1)) = true from (decide_eq_true (hF4 (bne0 hb60)).2.2.2.1)]))) ?_
            intro a hA
            refine seq_do (v := .bool true) hA rfl rfl rfl (does_pick rfl rfl rfl rfl) ?_
            intro a hA
            refine seq_do hA rfl rfl rfl (does_move rfl) ?_
            intro a hA
            refine seq_do hA rfl rfl rfl (does_move rfl) ?_
            intro a hA
            refine seq_do (v := .bool true) hA rfl rfl rfl (does_bin rfl rfl (fun w => (bin_lss w).trans (by rw [show (decide (c6.1 < 0)) = true from (decide_eq_true ((hF4 (bne0 hb60)).2.2.2.2.2.1 (of_decide_eq_true hb102)).2)]))) ?_
            intro a hA
            refine seq_do (v := .bool true) hA rfl rfl rfl (does_pick rfl rfl rfl rfl) ?_
            intro a hA
            refine seq_do hA rfl rfl rfl (does_assign rfl) ?_
            intro a hA
            refine seq_end ?_
            refine hK115 _ _ ?_
            refine wp_ret ?_
            refine hret _ _ ?_
            refine ends (v := .bool true) hA rfl (.cons (res_tmp rfl) .nil) rfl ?_
            exact ⟨rfl, hS.bel⟩
          · have hb119' := bne_eq_false_iff_eq.1 hb119
            refine seq_do (v := .bool false) hA rfl rfl rfl (does_bin rfl rfl (fun w => (bin_neq w).trans (by rw [hb119]))) ?_
            intro a hA
            refine seq_do (v := .bool false) hA rfl rfl rfl (does_pick rfl rfl rfl rfl) ?_
            intro a hA
            refine seq_do hA rfl rfl rfl (does_move rfl) ?_
            intro a hA
            refine seq_do (v := .agg #[.bool z4.1.b1, .slice p75_1 z4.1.t1.length p75_c1, .slice p75_2 z4.1.q1.length p75_c2, .bool z4.1.b2, .slice p75_3 z4.1.t2.length p75_c3, .slice p75_4 z4.1.q2.length p75_c4]) hA rfl rfl rfl (does_loadS hS ExT_isS_26 rfl 1 rfl (cs := [.bool z4.1.b1, .slice p75_1 z4.1.t1.length p75_c1, .slice p75_2 z4.1.q1.length p75_c2, .bool z4.1.b2, .slice p75_3 z4.1.t2.length p75_c3, .slice p75_4 z4.1.q2.length p75_c4]) rfl rfl) ?_
            intro a hA
            refine seq_do (v := .agg #[.bool p.b1, .slice a1 p.t1.length ac1, .slice a2 p.q1.length ac2, .bool p.b2, .slice a3 p.t2.length ac3, .slice a4 p.q2.length ac4]) hA rfl rfl rfl (does_loadS hS ExT_isS_26 rfl 9 rfl (cs := [.bool p.b1, .slice a1 p.t1.length ac1, .slice a2 p.q1.length ac2, .bool p.b2, .slice a3 p.t2.length ac3, .slice a4 p.q2.length ac4]) rfl rfl) ?_
            intro a hA
            refine seq_call hA rfl rfl rfl (enters_func  rfl rfl (fun w => by kernel_rfl)) (sameQ_any (show Nm _ z4.1 p75_1 p75_c1 p75_2 p75_c2 p75_3 p75_c3 p75_4 p75_c4 from ⟨⟨(hS.rd 19 rfl), hn76.s1.nil, hn76.s1.cap⟩, ⟨(hS.rd 18 rfl), hn76.s2.nil, hn76.s2.cap⟩, ⟨(hS.rd 17 rfl), hn76.s3.nil, hn76.s3.cap⟩, ⟨(hS.rd 16 rfl), hn76.s4.nil, hn76.s4.cap⟩⟩) l4 (show Nm _ p a1 ac1 a2 ac2 a3 ac3 a4 ac4 from ⟨⟨(hS.rd 51 rfl), ha.s1.nil, ha.s1.cap⟩, ⟨(hS.rd 50 rfl), ha.s2.nil, ha.s2.cap⟩, ⟨(hS.rd 49 rfl), ha.s3.nil, ha.s3.cap⟩, ⟨(hS.rd 48 rfl), ha.s4.nil, ha.s4.cap⟩⟩) hl ((hF4 (bne0 hb60)).1 (bne0 hb116) (bne0 hb119))) ?_
            rintro _ w123 ⟨rfl, hb122⟩
            replace hS := hS.call hb122
            refine ⟨_, rfl, ?_⟩
            intro a hA
            refine seq_do (v := .bool true) hA rfl rfl rfl (does_pick rfl rfl rfl rfl) ?_
            intro a hA
            refine seq_do hA rfl rfl rfl (does_move rfl) ?_
            intro a hA
            refine seq_do (v := .agg #[.bool t.1.b1, .slice p46_1 t.1.t1.length p46_c1, .slice p46_2 t.1.q1.length p46_c2, .bool t.1.b2, .slice p46_3 t.1.t2.length p46_c3, .slice p46_4 t.1.q2.length p46_c4]) hA rfl rfl rfl (does_loadS hS ExT_isS_26 rfl 4 rfl (cs := [.bool t.1.b1, .slice p46_1 t.1.t1.length p46_c1, .slice p46_2 t.1.q1.length p46_c2, .bool t.1.b2, .slice p46_3 t.1.t2.length p46_c3, .slice p46_4 t.1.q2.length p46_c4]) rfl rfl) ?_
            intro a hA
            refine seq_call hA rfl rfl rfl (enters_func  rfl rfl (fun w => by kernel_rfl)) (wholeQ_any (show Nm _ t.1 p46_1 p46_c1 p46_2 p46_c2 p46_3 p46_c3 p46_4 p46_c4 from ⟨⟨(hS.rd 31 rfl), hn48.s1.nil, hn48.s1.cap⟩, ⟨(hS.rd 30 rfl), hn48.s2.nil, hn48.s2.cap⟩, ⟨(hS.rd 29 rfl), hn48.s3.nil, hn48.s3.cap⟩, ⟨(hS.rd 28 rfl), hn48.s4.nil, hn48.s4.cap⟩⟩) lt1 (hF4 (bne0 hb60)).2.1) ?_
            rintro _ w125 ⟨rfl, hb124⟩
            replace hS := hS.call hb124
            refine ⟨_, rfl, ?_⟩
            intro a hA
            refine seq_do (v := .bool true) hA rfl rfl rfl (does_pick rfl rfl rfl rfl) ?_
            intro a hA
            refine seq_do hA rfl rfl rfl (does_move rfl) ?_
            intro a hA
            refine seq_do hA rfl rfl rfl (does_move rfl) ?_
            intro a hA
            refine seq_do (v := .bool true) hA rfl rfl rfl (does_bin rfl rfl (fun w => (bin_eql w).trans (by rw [show ((c4.2 == 0)) = true from (beq_iff_eq.2 (hF4 (bne0 hb60)).2.2.1)]))) ?_
            intro a hA
            refine seq_do (v := .bool true) hA rfl rfl rfl (does_pick rfl rfl rfl rfl) ?_
            intro a hA
            refine seq_do hA rfl rfl rfl (does_move rfl) ?_
            intro a hA
            refine seq_do hA rfl rfl rfl (does_move rfl) ?_
            intro a hA
            refine seq_do (v := .bool true) hA rfl rfl rfl (does_bin rfl rfl (fun w => (bin_eql w).trans (by rw [show ((c5.2 == 0)) = true from (beq_iff_eq.2 (hF4 (bne0 hb60)).2.2.2.2.1)]))) ?_
            intro a hA
            refine seq_do (v := .bool true) hA rfl rfl rfl (does_pick rfl rfl rfl rfl) ?_
            intro a hA
            refine seq_do hA rfl rfl rfl (does_move rfl) ?_
            intro a hA
            refine seq_do hA rfl rfl rfl (does_move rfl) ?_
            intro a hA
            refine seq_do (v := .bool true) hA rfl rfl rfl (does_bin rfl rfl (fun w => (bin_eql w).trans (by rw [show ((c6.2 == 0)) = true from (beq_iff_eq.2 ((hF4 (bne0 hb60)).2.2.2.2.2.1 (of_decide_eq_true hb102)).1)]))) ?_
            intro a hA
            refine seq_do (v := .bool true) hA rfl rfl rfl (does_pick rfl rfl rfl rfl) ?_
            intro a hA
            refine seq_do hA rfl rfl rfl (does_move rfl) ?_
            intro a hA
            refine seq_do hA rfl rfl rfl (does_move rfl) ?_
            intro a hA
            refine seq_do (v := .bool true) hA rfl rfl rfl (does_bin rfl rfl (fun w => (bin_geq w).trans (by rw [show (decide (0 ≤ c4.1)) = true from (decide_eq_true (hF4 (bne0 hb60)).2.2.2.1)]))) ?_
            intro a hA
            refine seq_do (v := .bool true) hA rfl rfl rfl (does_pick rfl rfl rfl rfl) ?_
            intro a hA
            refine seq_do hA rfl rfl rfl (does_move rfl) ?_
            intro a hA
            refine seq_do hA rfl rfl rfl (does_move rfl) ?_
            intro a hA
            refine seq_do (v := .bool true) hA rfl rfl rfl (does_bin rfl rfl (fun w => (bin_lss w).trans (by rw [show (decide (c6.1 < 0)) = true from (decide_eq_true ((hF4 (bne0 hb60)).2.2.2.2.2.1 (of_decide_eq_true hb102)).2)]))) ?_
            intro a hA
            refine seq_do (v := .bool true) hA rfl rfl rfl (does_pick rfl rfl rfl rfl) ?_
            intro a hA
            refine seq_do hA rfl rfl rfl (does_assign rfl) ?_
            intro a hA
            refine seq_end ?_
            refine hK115 _ _ ?_
            refine wp_ret ?_
            refine hret _ _ ?_
            refine ends (v := .bool true) hA rfl (.cons (res_tmp rfl) .nil) rfl ?_
            exact ⟨rfl, hS.bel⟩
      · have hb102' := of_decide_eq_false hb102
        refine seq_do (v := .bool false) hA rfl rfl rfl (does_bin rfl rfl (fun w => (bin_lss w).trans (by rw [hb102]))) ?_
        intro a hA
        refine seq_end ?_
        refine hK101 _ _ ?_
        refine wp_cond_false (hA.ev rfl) ?_
        refine wp_skip ?_
        refine hK100 _ _ ?_
        refine wp_seq_k (fun K126 hK126 => ?_)
        refine wp_region_lit ?_
        refine seq_do (v := .agg #[.bool t.2.1.b1, .slice p47_1 t.2.1.t1.length p47_c1, .slice p47_2 t.2.1.q1.length p47_c2, .bool t.2.1.b2, .slice p47_3 t.2.1.t2.length p47_c3, .slice p47_4 t.2.1.q2.length p47_c4]) hA rfl rfl rfl (does_loadS hS ExT_isS_26 rfl 3 rfl (cs := [.bool t.2.1.b1, .slice p47_1 t.2.1.t1.length p47_c1, .slice p47_2 t.2.1.q1.length p47_c2, .bool t.2.1.b2, .slice p47_3 t.2.1.t2.length p47_c3, .slice p47_4 t.2.1.q2.length p47_c4]) rfl rfl) ?_
        intro a hA
        refine seq_do (v := .agg #[.bool q.b1, .slice u1 q.t1.length uc1, .slice u2 q.q1.length uc2, .bool q.b2, .slice u3 q.t2.length uc3, .slice u4 q.q2.length uc4]) hA rfl rfl rfl (does_loadS hS ExT_isS_26 rfl 0 rfl (cs := [.bool q.b1, .slice u1 q.t1.length uc1, .slice u2 q.q1.length uc2, .bool q.b2, .slice u3 q.t2.length uc3, .slice u4 q.q2.length uc4]) rfl rfl) ?_
        intro a hA
        refine seq_call hA rfl rfl rfl (enters_func  rfl rfl (fun w => by kernel_rfl)) (cmpQ_as (show Nm _ t.2.1 p47_1 p47_c1 p47_2 p47_c2 p47_3 p47_c3 p47_4 p47_c4 from ⟨⟨(hS.rd 19 rfl), hn49.s1.nil, hn49.s1.cap⟩, ⟨(hS.rd 18 rfl), hn49.s2.nil, hn49.s2.cap⟩, ⟨(hS.rd 17 rfl), hn49.s3.nil, hn49.s3.cap⟩, ⟨(hS.rd 16 rfl), hn49.s4.nil, hn49.s4.cap⟩⟩) lt2 (show Nm _ q u1 uc1 u2 uc2 u3 uc3 u4 uc4 from ⟨⟨(hS.rd 39 rfl), hb.s1.nil, hb.s1.cap⟩, ⟨(hS.rd 38 rfl), hb.s2.nil, hb.s2.cap⟩, ⟨(hS.rd 37 rfl), hb.s3.nil, hb.s3.cap⟩, ⟨(hS.rd 36 rfl), hb.s4.nil, hb.s4.cap⟩⟩) hm d7) ?_
        rintro _ w128 ⟨rfl, hb127⟩
        replace hS := hS.call hb127
        refine ⟨_, rfl, ?_⟩
        intro a hA
        refine seq_do hA rfl rfl rfl (does_move rfl) ?_
        intro a hA
        refine seq_do (v := .int .i64 c7.1) hA rfl rfl rfl (does_extract (vs := [.int .i64 c7.1, .int .i64 c7.2]) rfl rfl) ?_
        intro a hA
        refine seq_do (v := .int .i64 c7.2) hA rfl rfl rfl (does_extract (vs := [.int .i64 c7.1, .int .i64 c7.2]) rfl rfl) ?_
        intro a hA
        refine seq_do hA rfl rfl rfl (does_assign rfl) ?_
        intro a hA
        refine seq_do hA rfl rfl rfl (does_assign rfl) ?_
        intro a hA
        refine seq_end ?_
        refine hK126 _ _ ?_
        refine wp_seq_k (fun K129 hK129 => ?_)
        refine wp_region_lit ?_
        refine seq_do hA rfl rfl rfl (does_move rfl) ?_
        intro a hA
        rcases Bool.eq_false_or_eq_true ((z3.2 != 0)) with hb130 | hb130
        · have hb130' := bne_iff_ne.1 hb130
          refine seq_do (v := .bool true) hA rfl rfl rfl (does_bin rfl rfl (fun w => (bin_neq w).trans (by rw [hb130]))) ?_
          intro a hA
          refine seq_do hA rfl rfl rfl (does_move rfl) ?_
          intro a hA
          refine seq_skip hA rfl rfl rfl ?_
          intro a hA
          refine seq_skip hA rfl rfl rfl ?_
          intro a hA
          refine seq_do (v := .bool true) hA rfl rfl rfl (does_pick rfl rfl rfl rfl) ?_
          intro a hA
          refine seq_do hA rfl rfl rfl (does_move rfl) ?_
          intro a hA
          refine seq_skip hA rfl rfl rfl ?_
          intro a hA
          refine seq_skip hA rfl rfl rfl ?_
          intro a hA
          refine seq_skip hA rfl rfl rfl ?_
          intro a hA
          refine seq_do (v := .bool true) hA rfl rfl rfl (does_pick rfl rfl rfl rfl) ?_
          intro a hA
          refine seq_do hA rfl rfl rfl (does_move rfl) ?_
          intro a hA
          refine seq_do (v := .agg #[.bool t.1.b1, .slice p46_1 t.1.t1.length p46_c1, .slice p46_2 t.1.q1.length p46_c2, .bool t.1.b2, .slice p46_3 t.1.t2.length p46_c3, .slice p46_4 t.1.q2.length p46_c4]) hA rfl rfl rfl (does_loadS hS ExT_isS_26 rfl 4 rfl (cs := [.bool t.1.b1, .slice p46_1 t.1.t1.length p46_c1, .slice p46_2 t.1.q1.length p46_c2, .bool t.1.b2, .slice p46_3 t.1.t2.length p46_c3, .slice p46_4 t.1.q2.length p46_c4]) rfl rfl) ?_
          intro a hA
          refine seq_call hA rfl rfl rfl (enters_func  rfl rfl (fun w => by kernel_rfl)) (wholeQ_any (show Nm _ t.1 p46_1 p46_c1 p46_2 p46_c2 p46_3 p46_c3 p46_4 p46_c4 from ⟨⟨(hS.rd 23 rfl), hn48.s1.nil, hn48.s1.cap⟩, ⟨(hS.rd 22 rfl), hn48.s2.nil, hn48.s2.cap⟩, ⟨(hS.rd 21 rfl), hn48.s3.nil, hn48.s3.cap⟩, ⟨(hS.rd 20 rfl), hn48.s4.nil, hn48.s4.cap⟩⟩) lt1 (hF4 (bne0 hb60)).2.1) ?_
          rintro _ w132 ⟨rfl, hb131⟩
          replace hS := hS.call hb131
          refine ⟨_, rfl, ?_⟩
          intro a hA
          refine seq_do (v := .bool true) hA rfl rfl rfl (does_pick rfl rfl rfl rfl) ?_
          intro a hA
          refine seq_do hA rfl rfl rfl (does_move rfl) ?_
          intro a hA
          refine seq_do hA rfl rfl rfl (does_move rfl) ?_
          intro a hA
          refine seq_do (v := .bool true) hA rfl rfl rfl (does_bin rfl rfl (fun w => (bin_eql w).trans (by rw [show ((c4.2 == 0)) = true from (beq_iff_eq.2 (hF4 (bne0 hb60)).2.2.1)]))) ?_
          intro a hA
          refine seq_do (v := .bool true) hA rfl rfl rfl (does_pick rfl rfl rfl rfl) ?_
          intro a hA
          refine seq_do hA rfl rfl rfl (does_move rfl) ?_
          intro a hA
          refine seq_do hA rfl rfl rfl (does_move rfl) ?_
          intro a hA
          refine seq_do (v := .bool true) hA rfl rfl rfl (does_bin rfl rfl (fun w => (bin_eql w).trans (by rw [show ((c5.2 == 0)) = true from (beq_iff_eq.2 (hF4 (bne0 hb60)).2.2.2.2.1)]))) ?_
          intro a hA
          refine seq_do (v := .bool true) hA rfl rfl rfl (does_pick rfl rfl rfl rfl) ?_
          intro a hA
          refine seq_do hA rfl rfl rfl (does_move rfl) ?_
          intro a hA
          refine seq_do hA rfl rfl rfl (does_move rfl) ?_
          intro a hA
          refine seq_do (v := .bool true) hA rfl rfl rfl (does_bin rfl rfl (fun w => (bin_eql w).trans (by rw [show ((c7.2 == 0)) = true from (beq_iff_eq.2 ((hF4 (bne0 hb60)).2.2.2.2.2.2 (of_decide_eq_false hb102)).1)]))) ?_
          intro a hA
          refine seq_do (v := .bool true) hA rfl rfl rfl (does_pick rfl rfl rfl rfl) ?_
          intro a hA
          refine seq_do hA rfl rfl rfl (does_move rfl) ?_
          intro a hA
          refine seq_do hA rfl rfl rfl (does_move rfl) ?_
          intro a hA
          refine seq_do (v := .bool true) hA rfl rfl rfl (does_bin rfl rfl (fun w => (bin_geq w).trans (by rw [show (decide (0 ≤ c4.1)) = true from (decide_eq_true (hF4 (bne0 hb60)).2.2.2.1)]))) ?_
          intro a hA
          refine seq_do (v := .bool true) hA rfl rfl rfl (does_pick rfl rfl rfl rfl) ?_
          intro a hA
          refine seq_do hA rfl rfl rfl (does_move rfl) ?_
          intro a hA
          refine seq_do hA rfl rfl rfl (does_move rfl) ?_
          intro a hA
          refine seq_do (v := .bool true) hA rfl rfl rfl (does_bin rfl rfl (fun w => (bin_lss w).trans (by rw [show (decide (c7.1 < 0)) = true from (decide_eq_true ((hF4 (bne0 hb60)).2.2.2.2.2.2 (of_decide_eq_false hb102)).2)]))) ?_
          intro a hA
          refine seq_do (v := .bool true) hA rfl rfl rfl (does_pick rfl rfl rfl rfl) ?_
          intro a hA
          refine seq_do hA rfl rfl rfl (does_assign rfl) ?_
          intro a hA
          refine seq_end ?_
          refine hK129 _ _ ?_
          refine wp_ret ?_
          refine hret _ _ ?_
          refine ends (v := .bool true) hA rfl (.cons (res_tmp rfl) .nil) rfl ?_
          exact ⟨rfl, hS.bel⟩
        · have hb130' := bne_eq_false_iff_eq.1 hb130
          refine seq_do (v := .bool false) hA rfl rfl rfl (does_bin rfl rfl (fun w => (bin_neq w).trans (by rw [hb130]))) ?_
          intro a hA
          refine seq_do hA rfl rfl rfl (does_move rfl) ?_
          intro a hA
          refine seq_do hA rfl rfl rfl (does_move rfl) ?_
          intro a hA
          rcases Bool.eq_false_or_eq_true ((z4.2 != 0)) with hb133 | hb133
          · have hb133' := bne_iff_ne.1 hb133
            refine seq_do (v := .bool true) hA rfl rfl rfl (does_bin rfl rfl (fun w => (bin_neq w).trans (by rw [hb133]))) ?_
            intro a hA
            refine seq_do (v := .bool true) hA rfl rfl rfl (does_pick rfl rfl rfl rfl) ?_
            intro a hA
            refine seq_do hA rfl rfl rfl (does_move rfl) ?_
            intro a hA
            refine seq_skip hA rfl rfl rfl ?_
            intro a hA
            refine seq_skip hA rfl rfl rfl ?_
            intro a hA
            refine seq_skip hA rfl rfl rfl ?_
            intro a hA
            refine seq_do (v := .bool true) hA rfl rfl rfl (does_pick rfl rfl rfl rfl) ?_
            intro a hA
            refine seq_do hA rfl rfl rfl (does_move rfl) ?_
            intro a hA
            refine seq_do (v := .agg #[.bool t.1.b1, .slice p46_1 t.1.t1.length p46_c1, .slice p46_2 t.1.q1.length p46_c2, .bool t.1.b2, .slice p46_3 t.1.t2.length p46_c3, .slice p46_4 t.1.q2.length p46_c4]) hA rfl rfl rfl (does_loadS hS ExT_isS_26 rfl 4 rfl (cs := [.bool t.1.b1, .slice p46_1 t.1.t1.length p46_c1, .slice p46_2 t.1.q1.length p46_c2, .bool t.1.b2, .slice p46_3 t.1.t2.length p46_c3, .slice p46_4 t.1.q2.length p46_c4]) rfl rfl) ?_
            intro a hA
            refine seq_call hA rfl rfl rfl (enters_func  rfl rfl (fun w => by kernel_rfl)) (wholeQ_any (show Nm _ t.1 p46_1 p46_c1 p46_2 p46_c2 p46_3 p46_c3 p46_4 p46_c4 from ⟨⟨(hS.rd 23 rfl), hn48.s1.nil, hn48.s1.cap⟩, ⟨(hS.rd 22 rfl), hn48.s2.nil, hn48.s2.cap⟩, ⟨(hS.rd 21 rfl), hn48.s3.nil, hn48.s3.cap⟩, ⟨(hS.rd 20 rfl), hn48.s4.nil, hn48.s4.cap⟩⟩) lt1 (hF4 (bne0 hb60)).2.1) ?_
            rintro _ w135 ⟨rfl, hb134⟩
            replace hS := hS.call hb134
            refine ⟨_, rfl, ?_⟩
            intro a hA
            refine seq_do (v := .bool true) hA rfl rfl rfl (does_pick rfl rfl rfl rfl) ?_
            intro a hA
            refine seq_do hA rfl rfl rfl (does_move rfl) ?_
            intro a hA
            refine seq_do hA rfl rfl rfl (does_move rfl) ?_
            intro a hA
            refine seq_do (v := .bool true) hA rfl rfl rfl (does_bin rfl rfl (fun w => (bin_eql w).trans (by rw [show ((c4.2 == 0)) = true from (beq_iff_eq.2 (hF4 (bne0 hb60)).2.2.1)]))) ?_
            intro a hA
            refine seq_do (v := .bool true) hA rfl rfl rfl (does_pick rfl rfl rfl rfl) ?_
            intro a hA
            refine seq_do hA rfl rfl rfl (does_move rfl) ?_
            intro a hA
            refine seq_do hA rfl rfl rfl (does_move rfl) ?_
            intro a hA
            refine seq_do (v := .bool true) hA rfl rfl rfl (does_bin rfl rfl (fun w => (bin_eql w).trans (by rw [show ((c5.2 == 0)) = true from (beq_iff_eq.2 (hF4 (bne0 hb60)).2.2.2.2.1)]))) ?_
            intro a hA
            refine seq_do (v := .bool true) hA rfl rfl rfl (does_pick rfl rfl rfl rfl) ?_
            intro a hA
            refine seq_do hA rfl rfl rfl (does_move rfl) ?_
            intro a hA
            refine seq_do hA rfl rfl rfl (does_move rfl) ?_
            intro a hA
            refine seq_do (v := .bool true) hA rfl rfl rfl (does_bin rfl rfl (fun w => (bin_eql w).trans (by rw [show ((c7.2 == 0)) = true from (beq_iff_eq.2 ((hF4 (bne0 hb60)).2.2.2.2.2.2 (of_decide_eq_false hb102)).1)]))) ?_
            intro a hA
            refine seq_do (v := .bool true) hA rfl rfl rfl (does_pick rfl rfl rfl rfl) ?_
            intro a hA
            refine seq_do hA rfl rfl rfl (does_move rfl) ?_
            intro a hA
            refine seq_do hA rfl rfl rfl (does_move rfl) ?_
            intro a hA
            refine seq_do (v := .bool true) hA rfl rfl rfl (does_bin rfl rfl (fun w => (bin_geq w).trans (by rw [show (decide (0 ≤ c4.1)) = true from (decide_eq_true (hF4 (bne0 hb60)).2.2.2.1)]))) ?_
            intro a hA
            refine seq_do (v := .bool true) hA rfl rfl rfl (does_pick rfl rfl rfl rfl) ?_
            intro a hA
            refine seq_do hA rfl rfl rfl (does_move rfl) ?_
            intro a hA
            refine seq_do hA rfl rfl rfl (does_move rfl) ?_
            intro a hA
            refine seq_do (v := .bool true) hA rfl rfl rfl (does_bin rfl rfl (fun w => (bin_lss w).trans (by rw [show (decide (c7.1 < 0)) = true from (decide_eq_true ((hF4 (bne0 hb60)).2.2.2.2.2.2 (of_decide_eq_false hb102)).2)]))) ?_
            intro a hA
            refine seq_do (v := .bool true) hA rfl rfl rfl (does_pick rfl rfl rfl rfl) ?_
            intro a hA
            refine seq_do hA rfl rfl rfl (does_assign rfl) ?_
            intro a hA
            refine seq_end ?_
            refine hK129 _ _ ?_
            refine wp_ret ?_
            refine hret _ _ ?_
            refine ends (v := .bool true) hA rfl (.cons (res_tmp rfl) .nil) rfl ?_
            exact ⟨rfl, hS.bel⟩
          · have hb133' := bne_eq_false_iff_eq.1 hb133
            refine seq_do (v := .bool false) hA rfl rfl rfl (does_bin rfl rfl (fun w => (bin_neq w).trans (by rw [hb133]))) ?_
            intro a hA
            refine seq_do (v := .bool false) hA rfl rfl rfl (does_pick rfl rfl rfl rfl) ?_
            intro a hA
            refine seq_do hA rfl rfl rfl (does_move rfl) ?_
            intro a hA
            refine seq_do (v := .agg #[.bool z4.1.b1, .slice p75_1 z4.1.t1.length p75_c1, .slice p75_2 z4.1.q1.length p75_c2, .bool z4.1.b2, .slice p75_3 z4.1.t2.length p75_c3, .slice p75_4 z4.1.q2.length p75_c4]) hA rfl rfl rfl (does_loadS hS ExT_isS_26 rfl 1 rfl (cs := [.bool z4.1.b1, .slice p75_1 z4.1.t1.length p75_c1, .slice p75_2 z4.1.q1.length p75_c2, .bool z4.1.b2, .slice p75_3 z4.1.t2.length p75_c3, .slice p75_4 z4.1.q2.length p75_c4]) rfl rfl) ?_
            intro a hA
            refine seq_do (v := .agg #[.bool p.b1, .slice a1 p.t1.length ac1, .slice a2 p.q1.length ac2, .bool p.b2, .slice a3 p.t2.length ac3, .slice a4 p.q2.length ac4]) hA rfl rfl rfl (does_loadS hS ExT_isS_26 rfl 9 rfl (cs := [.bool p.b1, .slice a1 p.t1.length ac1, .slice a2 p.q1.length ac2, .bool p.b2, .slice a3 p.t2.length ac3, .slice a4 p.q2.length ac4]) rfl rfl) ?_
            intro a hA
            refine seq_call hA rfl rfl rfl (enters_func  rfl rfl (fun w => by kernel_rfl)) (sameQ_any (show Nm _ z4.1 p75_1 p75_c1 p75_2 p75_c2 p75_3 p75_c3 p75_4 p75_c4 from ⟨⟨(hS.rd 11 rfl), hn76.s1.nil, hn76.s1.cap⟩, ⟨(hS.rd 10 rfl), hn76.s2.nil, hn76.s2.cap⟩, ⟨(hS.rd 9 rfl), hn76.s3.nil, hn76.s3.cap⟩, ⟨(hS.rd 8 rfl), hn76.s4.nil, hn76.s4.cap⟩⟩) l4 (show Nm _ p a1 ac1 a2 ac2 a3 ac3 a4 ac4 from ⟨⟨(hS.rd 43 rfl), ha.s1.nil, ha.s1.cap⟩, ⟨(hS.rd 42 rfl), ha.s2.nil, ha.s2.cap⟩, ⟨(hS.rd 41 rfl), ha.s3.nil, ha.s3.cap⟩, ⟨(hS.rd 40 rfl), ha.s4.nil, ha.s4.cap⟩⟩) hl ((hF4 (bne0 hb60)).1 (bne0 hb130) (bne0 hb133))) ?_
            rintro _ w137 ⟨rfl, hb136⟩
            replace hS := hS.call hb136
            refine ⟨_, rfl, ?_⟩
            intro a hA
            refine seq_do (v := .bool true) hA rfl rfl rfl (does_pick rfl rfl rfl rfl) ?_
            intro a hA
            refine seq_do hA rfl rfl rfl (does_move rfl) ?_
            intro a hA
            refine seq_do (v := .agg #[.bool t.1.b1, .slice p46_1 t.1.t1.length p46_c1, .slice p46_2 t.1.q1.length p46_c2, .bool t.1.b2, .slice p46_3 t.1.t2.length p46_c3, .slice p46_4 t.1.q2.length p46_c4]) hA rfl rfl rfl (does_loadS hS ExT_isS_26 rfl 4 rfl (cs := [.bool t.1.b1, .slice p46_1 t.1.t1.length p46_c1, .slice p46_2 t.1.q1.length p46_c2, .bool t.1.b2, .slice p46_3 t.1.t2.length p46_c3, .slice p46_4 t.1.q2.length p46_c4]) rfl rfl) ?_
            intro a hA
            refine seq_call hA rfl rfl rfl (enters_func  rfl rfl (fun w => by kernel_rfl)) (wholeQ_any (show Nm _ t.1 p46_1 p46_c1 p46_2 p46_c2 p46_3 p46_c3 p46_4 p46_c4 from ⟨⟨(hS.rd 23 rfl), hn48.s1.nil, hn48.s1.cap⟩, ⟨(hS.rd 22 rfl), hn48.s2.nil, hn48.s2.cap⟩, ⟨(hS.rd 21 rfl), hn48.s3.nil, hn48.s3.cap⟩, ⟨(hS.rd 20 rfl), hn48.s4.nil, hn48.s4.cap⟩⟩) lt1 (hF4 (bne0 hb60)).2.1) ?_
            rintro _ w139 ⟨rfl, hb138⟩
            replace hS := hS.call hb138
            refine ⟨_, rfl, ?_⟩
            intro a hA
            refine seq_do (v := .bool true) hA rfl rfl rfl (does_pick rfl rfl rfl rfl) ?_
            intro a hA
            refine seq_do hA rfl rfl rfl (does_move rfl) ?_
            intro a hA
            refine seq_do hA rfl rfl rfl (does_move rfl) ?_
            intro a hA
            refine seq_do (v := .bool true) hA rfl rfl rfl (does_bin rfl rfl (fun w => (bin_eql w).trans (by rw [show ((c4.2 == 0)) = true from (beq_iff_eq.2 (hF4 (bne0 hb60)).2.2.1)]))) ?_
            intro a hA
            refine seq_do (v := .bool true) hA rfl rfl rfl (does_pick rfl rfl rfl rfl) ?_
            intro a hA
            refine seq_do hA rfl rfl rfl (does_move rfl) ?_
            intro a hA
            refine seq_do hA rfl rfl rfl (does_move rfl) ?_
            intro a hA
            refine seq_do (v := .bool true) hA rfl rfl rfl (does_bin rfl rfl (fun w => (bin_eql w).trans (by rw [show ((c5.2 == 0)) = true from (beq_iff_eq.2 (hF4 (bne0 hb60)).2.2.2.2.1)]))) ?_
            intro a hA
            refine seq_do (v := .bool true) hA rfl rfl rfl (does_pick rfl rfl rfl rfl) ?_
            intro a hA
            refine seq_do hA rfl rfl rfl (does_move rfl) ?_
            intro a hA
            refine seq_do hA rfl rfl rfl (does_move rfl) ?_
            intro a hA
            refine seq_do (v := .bool true) hA rfl rfl rfl (does_bin rfl rfl (fun w => (bin_eql w).trans (by rw [show ((c7.2 == 0)) = true from (beq_iff_eq.2 ((hF4 (bne0 hb60)).2.2.2.2.2.2 (of_decide_eq_false hb102)).1)]))) ?_
            intro a hA
            refine seq_do (v := .bool true) hA rfl rfl rfl (does_pick rfl rfl rfl rfl) ?_
            intro a hA
            refine seq_do hA rfl rfl rfl (does_move rfl) ?_
            intro a hA
            refine seq_do hA rfl rfl rfl (does_move rfl) ?_
            intro a hA
            refine seq_do (v := .bool true) hA rfl rfl rfl (does_bin rfl rfl (fun w => (bin_geq w).trans (by rw [show (decide (0 ≤ c4.1)) = true from (decide_eq_true (hF4 (bne0 hb60)).2.2.2.1)]))) ?_
            intro a hA
            refine seq_do (v := .bool true) hA rfl rfl rfl (does_pick rfl rfl rfl rfl) ?_
            intro a hA
            refine seq_do hA rfl rfl rfl (does_move rfl) ?_
            intro a hA
            refine seq_do hA rfl rfl rfl (does_move rfl) ?_
            intro a hA
            refine seq_do (v := .bool true) hA rfl rfl rfl (does_bin rfl rfl (fun w => (bin_lss w).trans (by rw [show (decide (c7.1 < 0)) = true from (decide_eq_true ((hF4 (bne0 hb60)).2.2.2.2.2.2 (of_decide_eq_false hb102)).2)]))) ?_
            intro a hA
            refine seq_do (v := .bool true) hA rfl rfl rfl (does_pick rfl rfl rfl rfl) ?_
            intro a hA
            refine seq_do hA rfl rfl rfl (does_assign rfl) ?_
            intro a hA
            refine seq_end ?_
            refine hK129 _ _ ?_
            refine wp_ret ?_
            refine hret _ _ ?_
            refine ends (v := .bool true) hA rfl (.cons (res_tmp rfl) .nil) rfl ?_
            exact ⟨rfl, hS.bel⟩
  refine wp_region_lit ?_
  refine seq_do hA rfl rfl rfl (does_move rfl) ?_
  intro a hA
  rcases Bool.eq_false_or_eq_true ((c1.2 == 0)) with hb140 | hb140
  · have hb140' := eq_of_beq hb140
    refine seq_do (v := .bool true) hA rfl rfl rfl (does_bin rfl rfl (fun w => (bin_eql w).trans (by rw [hb140]))) ?_
    intro a hA
    refine seq_do hA rfl rfl rfl (does_move rfl) ?_
    intro a hA
    refine seq_do hA rfl rfl rfl (does_move rfl) ?_
    intro a hA
    rcases Bool.eq_false_or_eq_true ((z1.2 == 0)) with hb141 | hb141
    · have hb141' := eq_of_beq hb141
      refine seq_do (v := .bool true) hA rfl rfl rfl (does_bin rfl rfl (fun w => (bin_eql w).trans (by rw [hb141]))) ?_
      intro a hA
      refine seq_do (v := .bool true) hA rfl rfl rfl (does_pick rfl rfl rfl rfl) ?_
      intro a hA
      refine seq_do hA rfl rfl rfl (does_move rfl) ?_
      intro a hA
      refine seq_do hA rfl rfl rfl (does_move rfl) ?_
      intro a hA
      rcases Bool.eq_false_or_eq_true ((z2.2 == 0)) with hb142 | hb142
      · have hb142' := eq_of_beq hb142
        refine seq_do (v := .bool true) hA rfl rfl rfl (does_bin rfl rfl (fun w => (bin_eql w).trans (by rw [hb142]))) ?_
        intro a hA
        refine seq_do (v := .bool true) hA rfl rfl rfl (does_pick rfl rfl rfl rfl) ?_
        intro a hA
        refine seq_do hA rfl rfl rfl (does_move rfl) ?_
        intro a hA
        refine seq_do hA rfl rfl rfl (does_move rfl) ?_
        intro a hA
        rcases Bool.eq_false_or_eq_true ((c3.2 == 0)) with hb143 | hb143
        · have hb143' := eq_of_beq hb143
          refine seq_do (v := .bool true) hA rfl rfl rfl (does_bin rfl rfl (fun w => (bin_eql w).trans (by rw [hb143]))) ?_
          intro a hA
          refine seq_do (v := .bool true) hA rfl rfl rfl (does_pick rfl rfl rfl rfl) ?_
          intro a hA
          refine seq_do hA rfl rfl rfl (does_move rfl) ?_
          intro a hA
          refine seq_do hA rfl rfl rfl (does_move rfl) ?_
          intro a hA
          refine seq_do hA rfl rfl rfl (does_move rfl) ?_
          intro a hA
          refine seq_do (v := .bool false) hA rfl rfl rfl (does_bin rfl rfl (fun w => (bin_neq w).trans (by rw [show ((c3.1 != c1.1)) = false from (bne_eq_false_iff_eq.2 (hF3 (eq_of_beq hb140) (eq_of_beq hb141) (eq_of_beq hb142) (eq_of_beq hb143)))]))) ?_
          intro a hA
          refine seq_do (v := .bool false) hA rfl rfl rfl (does_pick rfl rfl rfl rfl) ?_
          intro a hA
          refine seq_end ?_
          exact hJ43 _ _ ⟨hA.keep _ ⟨rfl, rfl, rfl, rfl, rfl, rfl, rfl, rfl, rfl, rfl, rfl, rfl, rfl, rfl, rfl, rfl, rfl, rfl, rfl, rfl, rfl, rfl, rfl, rfl, rfl, rfl, rfl, rfl, rfl, rfl, rfl, rfl, rfl, rfl, rfl, rfl, rfl, rfl, rfl, rfl, rfl, rfl, rfl, rfl, rfl, rfl, rfl, rfl, rfl, rfl, rfl, rfl, rfl, rfl, rfl, rfl, rfl, rfl, rfl, rfl, rfl, rfl, trivial⟩, hS⟩
        · have hb143' := ne_of_beq_false hb143
          refine seq_do (v := .bool false) hA rfl rfl rfl (does_bin rfl rfl (fun w => (bin_eql w).trans (by rw [hb143]))) ?_
          intro a hA
          refine seq_do (v := .bool false) hA rfl rfl rfl (does_pick rfl rfl rfl rfl) ?_
          intro a hA
          refine seq_do hA rfl rfl rfl (does_move rfl) ?_
          intro a hA
          refine seq_skip hA rfl rfl rfl ?_
          intro a hA
          refine seq_skip hA rfl rfl rfl ?_
          intro a hA
          refine seq_skip hA rfl rfl rfl ?_
          intro a hA
          refine seq_do (v := .bool false) hA rfl rfl rfl (does_pick rfl rfl rfl rfl) ?_
          intro a hA
          refine seq_end ?_
          exact hJ43 _ _ ⟨hA.keep _ ⟨rfl, rfl, rfl, rfl, rfl, rfl, rfl, rfl, rfl, rfl, rfl, rfl, rfl, rfl, rfl, rfl, rfl, rfl, rfl, rfl, rfl, rfl, rfl, rfl, rfl, rfl, rfl, rfl, rfl, rfl, rfl, rfl, rfl, rfl, rfl, rfl, rfl, rfl, rfl, rfl, rfl, rfl, rfl, rfl, rfl, rfl, rfl, rfl, rfl, rfl, rfl, rfl, rfl, rfl, rfl, rfl, rfl, rfl, rfl, rfl, rfl, rfl, trivial⟩, hS⟩
      · have hb142' := ne_of_beq_false hb142
        refine seq_do (v := .bool false) hA rfl rfl rfl (does_bin rfl rfl (fun w => (bin_eql w).trans (by rw [hb142]))) ?_
        intro a hA
        refine seq_do (v := .bool false) hA rfl rfl rfl (does_pick rfl rfl rfl rfl) ?_
        intro a hA
        refine seq_do hA rfl rfl rfl (does_move rfl) ?_
        intro a hA
        refine seq_skip hA rfl rfl rfl ?_
        intro a hA
        refine seq_skip hA rfl rfl rfl ?_
        intro a hA
        refine seq_do (v := .bool false) hA rfl rfl rfl (does_pick rfl rfl rfl rfl) ?_
        intro a hA
        refine seq_do hA rfl rfl rfl (does_move rfl) ?_
        intro a hA
        refine seq_skip hA rfl rfl rfl ?_
        intro a hA
        refine seq_skip hA rfl rfl rfl ?_
        intro a hA
        refine seq_skip hA rfl rfl rfl ?_
        intro a hA
        refine seq_do (v := .bool false) hA rfl rfl rfl (does_pick rfl rfl rfl rfl) ?_
        intro a hA
        refine seq_end ?_
        exact hJ43 _ _ ⟨hA.keep _ ⟨rfl, rfl, rfl, rfl, rfl, rfl, rfl, rfl, rfl, rfl, rfl, rfl, rfl, rfl, rfl, rfl, rfl, rfl, rfl, rfl, rfl, rfl, rfl, rfl, rfl, rfl, rfl, rfl, rfl, rfl, rfl, rfl, rfl, rfl, rfl, rfl, rfl, rfl, rfl, rfl, rfl, rfl, rfl, rfl, rfl, rfl, rfl, rfl, rfl, rfl, rfl, rfl, rfl, rfl, rfl, rfl, rfl, rfl, rfl, rfl, rfl, rfl, trivial⟩, hS⟩
    · have hb141' := ne_of_beq_false hb141
      refine seq_do (v := .bool false) hA rfl rfl rfl (does_bin rfl rfl (fun w => (bin_eql w).trans (by rw [hb141]))) ?_
      intro a hA
      refine seq_do (v := .bool false) hA rfl rfl rfl (does_pick rfl rfl rfl rfl) ?_
      intro a hA
      refine seq_do hA rfl rfl rfl (does_move rfl) ?_
      intro a hA
      refine seq_skip hA rfl rfl rfl ?_
      intro a hA
      refine seq_skip hA rfl rfl rfl ?_
      intro a hA
      refine seq_do (v := .bool false) hA rfl rfl rfl (does_pick rfl rfl rfl rfl) ?_
      intro a hA
      refine seq_do hA rfl rfl rfl (does_move rfl) ?_
      intro a hA
      refine seq_skip hA rfl rfl rfl ?_
      intro a hA
      refine seq_skip hA rfl rfl rfl ?_
      intro a hA
      refine seq_do (v := .bool false) hA rfl rfl rfl (does_pick rfl rfl rfl rfl) ?_
      intro a hA
      refine seq_do hA rfl rfl rfl (does_move rfl) ?_
      intro a hA
      refine seq_skip hA rfl rfl rfl ?_
      intro a hA
      refine seq_skip hA rfl rfl rfl ?_
      intro a hA
      refine seq_skip hA rfl rfl rfl ?_
      intro a hA
      refine seq_do (v := .bool false) hA rfl rfl rfl (does_pick rfl rfl rfl rfl) ?_
      intro a hA
      refine seq_end ?_
      exact hJ43 _ _ ⟨hA.keep _ ⟨rfl, rfl, rfl, rfl, rfl, rfl, rfl, rfl, rfl, rfl, rfl, rfl, rfl, rfl, rfl, rfl, rfl, rfl, rfl, rfl, rfl, rfl, rfl, rfl, rfl, rfl, rfl, rfl, rfl, rfl, rfl, rfl, rfl, rfl, rfl, rfl, rfl, rfl, rfl, rfl, rfl, rfl, rfl, rfl, rfl, rfl, rfl, rfl, rfl, rfl, rfl, rfl, rfl, rfl, rfl, rfl, rfl, rfl, rfl, rfl, rfl, rfl, trivial⟩, hS⟩
  · have hb140' := ne_of_beq_false hb140
    refine seq_do (v := .bool false) hA rfl rfl rfl (does_bin rfl rfl (fun w => (bin_eql w).trans (by rw [hb140]))) ?_
    intro a hA
    refine seq_do hA rfl rfl rfl (does_move rfl) ?_
    intro a hA
    refine seq_skip hA rfl rfl rfl ?_
    intro a hA
    refine seq_skip hA rfl rfl rfl ?_
    intro a hA
    refine seq_do (v := .bool false) hA rfl rfl rfl (does_pick rfl rfl rfl rfl) ?_
    intro a hA
    refine seq_do hA rfl rfl rfl (does_move rfl) ?_
    intro a hA
    refine seq_skip hA rfl rfl rfl ?_
    intro a hA
    refine seq_skip hA rfl rfl rfl ?_
    intro a hA
    refine seq_do (v := .bool false) hA rfl rfl rfl (does_pick rfl rfl rfl rfl) ?_
    intro a hA
    refine seq_do hA rfl rfl rfl (does_move rfl) ?_
    intro a hA
    refine seq_skip hA rfl rfl rfl ?_
    intro a hA
    refine seq_skip hA rfl rfl rfl ?_
    intro a hA
    refine seq_do (v := .bool false) hA rfl rfl rfl (does_pick rfl rfl rfl rfl) ?_
    intro a hA
    refine seq_do hA rfl rfl rfl (does_move rfl) ?_
    intro a hA
    refine seq_skip hA rfl rfl rfl ?_
    intro a hA
    refine seq_skip hA rfl rfl rfl ?_
    intro a hA
    refine seq_skip hA rfl rfl rfl ?_
    intro a hA
    refine seq_do (v := .bool false) hA rfl rfl rfl (does_pick rfl rfl rfl rfl) ?_
    intro a hA
    refine seq_end ?_
    exact hJ43 _ _ ⟨hA.keep _ ⟨rfl, rfl, rfl, rfl, rfl, rfl, rfl, rfl, rfl, rfl, rfl, rfl, rfl, rfl, rfl, rfl, rfl, rfl, rfl, rfl, rfl, rfl, rfl, rfl, rfl, rfl, rfl, rfl, rfl, rfl, rfl, rfl, rfl, rfl, rfl, rfl, rfl, rfl, rfl, rfl, rfl, rfl, rfl, rfl, rfl, rfl, rfl, rfl, rfl, rfl, rfl, rfl, rfl, rfl, rfl, rfl, rfl, rfl, rfl, rfl, rfl, rfl, trivial⟩, hS⟩
theorem exactOrder_any {w : World} {p q r : Q6} {a1 a2 a3 a4 : Option Addr} {ac1 ac2 ac3 ac4 : Nat} (ha : Nm w p a1 ac1 a2 ac2 a3 ac3 a4 ac4) (hl : LenQ p) {u1 u2 u3 u4 : Option Addr} {uc1 uc2 uc3 uc4 : Nat} (hb : Nm w q u1 uc1 u2 uc2 u3 uc3 u4 uc4) (hm : LenQ q) {y1 y2 y3 y4 : Option Addr} {yc1 yc2 yc3 yc4 : Nat} (hc : Nm w r y1 yc1 y2 yc2 y3 yc3 y4 yc4) (ho : LenQ r) : Calls Try.prog 3 #[numV p a1 ac1 a2 ac2 a3 ac3 a4 ac4, numV q u1 uc1 u2 uc2 u3 uc3 u4 uc4, numV r y1 yc1 y2 yc2 y3 yc3 y4 yc4] w fun e w' => e = .returned (.bool true) ∧ Below w.heap.size w w' := by
  refine orderW_any ha hb hc hl hm ho rfl (lenQ_dm p q).1 (lenQ_dm p q).2 rfl (lenQ_add _ _) rfl (lenQ_add _ _) rfl (lenQ_mul _ _) rfl (lenQ_add _ _) rfl (lenQ_sub _ _) rfl rfl rfl rfl rfl rfl rfl (cmpQ_swap p q).1 (cmpQ_swap p q).2 (cmpQ_range q p).1 (cmpQ_range q p).2 order_sum ?_
  intro h0
  have hw : wantR2 p q = 0 := by
    apply Classical.byContradiction
    intro k
    unfold dmQ at h0
    rw [if_neg k] at h0
    exact k h0
  obtain ⟨s1, s2⟩ := wantR2_ok hw
  obtain ⟨u, v, rfl, hu, hv⟩ := sound_rat ha.s1.rd.dig ha.s2.rd.dig ha.s3.rd.dig ha.s4.rd.dig s1
  obtain ⟨x, y, rfl, hx, hy⟩ := sound_rat hb.s1.rd.dig hb.s2.rd.dig hb.s3.rd.dig hb.s4.rd.dig s2
  exact order_rest hu hv hx hy rfl h0
end Go.Proofs.Ytmibkfihcihphaa
namespace Go.Proofs.Ytmibkfihcihphaa
open Go.ChangeShapes Go.WideShapes Go.ChangeAt Go.RowKit Go.Joins Go.Deep
set_option linter.unusedVariables false
set_option linter.unusedSimpArgs false
set_option maxRecDepth 100000

section
variable {H : Type} {enc : TypeId × Value → H} {W : World}
theorem trod_bool {fuel : Nat} {v : Value} {x : DataW H × List MemPlace} (h : DataW.trod enc Try.prog W 0 (fun _ => true) true fuel 4 [v] = some x) : ∃ b, v = .bool b := by
  obtain ⟨b, h, _⟩ := DataW.trod_bool Try.underlying4 h
  exact ⟨b, by simpa using h⟩
theorem trod_words {fuel : Nat} {v : Value} {x : DataW H × List MemPlace} (h : DataW.trod enc Try.prog W 0 (fun _ => true) true fuel 22 [v] = some x) : ∃ ao c l, v = .slice ao l.length c ∧ Arg W ao c l := by
  rcases open_ints Try.underlying22 Try.underlying67 (by kernel_rfl) h with ⟨hcs, _⟩ | ⟨x, l, c, zs, hcs, _, hl, hm, hz, hx, hcell, hwz⟩
  · cases hcs
    exact ⟨none, 0, [], rfl, arg_nil W⟩
  · cases hcs
    obtain ⟨us, e, ha⟩ := arg_row hl hm (by simpa using hz) hcell hwz
    subst e
    exact ⟨_, _, us, rfl, ha⟩
theorem trod_rat {fuel : Nat} {v0 v1 v2 : Value} {x : DataW H × List MemPlace} (h : DataW.trod enc Try.prog W 0 (fun _ => true) true fuel 24 [v0, v1, v2] = some x) : ∃ b o1 c1 l1 o2 c2 l2, v0 = .bool b ∧ v1 = .slice o1 l1.length c1 ∧ v2 = .slice o2 l2.length c2 ∧ Arg W o1 c1 l1 ∧ Arg W o2 c2 l2 := by
  obtain ⟨y0, y1, y2, n, _, _, h0, h1, h2⟩ := trod_struct3 Try.underlying24 h
  have e0 : Try.prog.cellsOf 4 = 1 := by kernel_rfl
  have e1 : Try.prog.cellsOf 22 = 1 := by kernel_rfl
  simp only [e0, e1, List.drop_zero, List.take_succ_cons, List.take_zero, List.drop_succ_cons] at h0 h1 h2
  obtain ⟨b, rfl⟩ := trod_bool h0
  obtain ⟨o1, c1, l1, rfl, a1⟩ := trod_words h1
  obtain ⟨o2, c2, l2, rfl, a2⟩ := trod_words h2
  exact ⟨b, o1, c1, l1, o2, c2, l2, rfl, rfl, rfl, a1, a2⟩
theorem open_num {base : Nat} {v : Value} {d : DataW H} {p : List MemPlace} (hv : Value.okWide Try.prog W .any base 26 v) (h : DataW.Trod enc Try.prog W 0 (fun _ => true) true 26 v d p) :
    ∃ q o1 c1 o2 c2 o3 c3 o4 c4, v = numV q o1 c1 o2 c2 o3 c3 o4 c4 ∧ Nm W q o1 c1 o2 c2 o3 c3 o4 c4 ∧ LenQ q := by
  obtain ⟨cs, rfl, hsz⟩ := okWide_struct Try.underlying26 hv
  rw [show Try.prog.cellsOf 26 = 6 from by kernel_rfl] at hsz
  obtain ⟨cs⟩ := cs
  match cs, hsz with
  | [v0, v1, v2, v3, v4, v5], _ =>
    obtain ⟨fuel, hf⟩ := h
    obtain ⟨y0, y1, n, _, _, h0, h1⟩ := trod_struct2 Try.underlying26 hf
    have e : Try.prog.cellsOf 24 = 3 := by kernel_rfl
    simp only [Value.cells, e, List.drop_zero, List.take_succ_cons, List.take_zero, List.drop_succ_cons] at h0 h1
    obtain ⟨b1, o1, c1, l1, o2, c2, l2, rfl, rfl, rfl, a1, a2⟩ := trod_rat h0
    obtain ⟨b2, o3, c3, l3, o4, c4, l4, rfl, rfl, rfl, a3, a4⟩ := trod_rat h1
    exact ⟨⟨b1, l1, l2, b2, l3, l4⟩, o1, c1, o2, c2, o3, c3, o4, c4, rfl, ⟨⟨a1.rd, a1.nil, a1.caps⟩, ⟨a2.rd, a2.nil, a2.caps⟩, ⟨a3.rd, a3.nil, a3.caps⟩, ⟨a4.rd, a4.nil, a4.caps⟩⟩, ⟨a1.len, a2.len, a3.len, a4.len⟩⟩
end
end Go.Proofs.Ytmibkfihcihphaa
