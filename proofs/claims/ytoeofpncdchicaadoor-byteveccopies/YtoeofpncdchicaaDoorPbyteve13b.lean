/- Walks of small numbers and of sameness. The walk of the fixed fact of the laws of bytevec. The walk of BytevecCopies. Transcoders that come in as arguments. Rows of bytes that come in as arguments; the first part of a row, and of a text. -/
import Derived.Test.YtoeofpncdchicaaDoorPbyteve13a
import Derived.Test.YtoeofpncdchicaaDoorProg
import Derived.WalkKit
import Derived.ProofKit
import Derived.OpenShut
import Derived.ChangeOld
import Derived.Lib.SmallJoins
import Derived.Deep.Strs
namespace Go.Proofs.YtoeofpncdchicaaDoor
open Go.RowKit
set_option linter.unusedVariables false
set_option linter.unusedSimpArgs false
set_option maxRecDepth 100000
theorem BiS_is1_23 : Is1 Tryd.prog 23 := ⟨⟨_, Tryd.underlying23, rfl⟩, by kernel_rfl⟩
theorem BiS_is1_4 : Is1 Tryd.prog 4 := ⟨⟨_, Tryd.underlying4, rfl⟩, by kernel_rfl⟩
theorem BiS_fld_25_0 : FieldAt Tryd.prog 25 0 0 := ⟨_, _, Tryd.underlying25, rfl, rfl, by kernel_rfl⟩
theorem BiS_fld_25_1 : FieldAt Tryd.prog 25 1 1 := ⟨_, _, Tryd.underlying25, rfl, rfl, by kernel_rfl⟩
theorem BiS_fld_25_2 : FieldAt Tryd.prog 25 2 2 := ⟨_, _, Tryd.underlying25, rfl, rfl, by kernel_rfl⟩
theorem BiS_fld_27_0 : FieldAt Tryd.prog 27 0 0 := ⟨_, _, Tryd.underlying27, rfl, rfl, by kernel_rfl⟩
theorem BiS_fld_27_1 : FieldAt Tryd.prog 27 1 3 := ⟨_, _, Tryd.underlying27, rfl, rfl, by kernel_rfl⟩
theorem BiS_isS_25 : IsS Tryd.prog 25 3 := ⟨⟨_, Tryd.underlying25⟩, by kernel_rfl⟩
theorem BiS_isS_27 : IsS Tryd.prog 27 6 := ⟨⟨_, Tryd.underlying27⟩, by kernel_rfl⟩
theorem sameFr_any {w : World} {b b' : Bool} {t q t' q' : List Nat} {a1 a2 : Option Addr} {ac1 ac2 : Nat} (ha1 : Sc w a1 ac1 t) (ha2 : Sc w a2 ac2 q) {u1 u2 : Option Addr} {uc1 uc2 : Nat} (hu1 : Sc w u1 uc1 t') (hu2 : Sc w u2 uc2 q') (l1 : t.length ≤ 9223372036854775807) (l2 : q.length ≤ 9223372036854775807) (l3 : t'.length ≤ 9223372036854775807) (l4 : q'.length ≤ 9223372036854775807) {r : Bool} (hr : sameF b t q b' t' q' = r) :
    Calls Tryd.prog 46 #[.agg #[.bool b, .slice a1 t.length ac1, .slice a2 q.length ac2], .agg #[.bool b', .slice u1 t'.length uc1, .slice u2 q'.length uc2]] w fun e w' => e = .returned (.bool r) ∧ Below w.heap.size w w' := by
 have hS : St w w [] [(u2, q'), (u1, t'), (a2, q), (a1, t)] [] := ((((St.start w).addR ha1.rd).addR ha2.rd).addR hu1.rd).addR hu2.rd
 refine walk_of (l := [(0, .agg #[.bool b, .slice a1 t.length ac1, .slice a2 q.length ac2]), (1, .agg #[.bool b', .slice u1 t'.length uc1, .slice u2 q'.length uc2])]) Tryd.func46 rfl Tryd.ntmps46 rfl rfl ?_
 intro Q hret hnorm hP a hA
 refine wp_seq_k (fun K1 hK1 => ?_)
 refine wp_region_lit ?_
 refine seq_new hA hS rfl rfl rfl (fun g => .pointer (some ⟨g, 0, none⟩)) (does_box rfl rfl) rfl ?_
 intro g2 w3 hS a hA
 refine seq_new hA hS rfl rfl rfl (fun g => .pointer (some ⟨g, 0, none⟩)) (does_box rfl rfl) rfl ?_
 intro g4 w5 hS a hA
 refine seq_do hA rfl rfl rfl (does_assign rfl) ?_
 intro a hA
 refine seq_end ?_
 refine hK1 _ _ ?_
 refine wp_seq_k (fun K6 hK6 => ?_)
 refine wp_region_lit ?_
 refine seq_do (v := .pointer (some ⟨g2, 0, none⟩)) hA rfl rfl rfl (does_field BiS_fld_25_0 rfl rfl) ?_
 intro a hA
 refine seq_do hA rfl rfl rfl (does_load1 hS BiS_is1_4 rfl 1 rfl rfl) ?_
 intro a hA
 refine seq_do (v := .pointer (some ⟨g4, 0, none⟩)) hA rfl rfl rfl (does_field BiS_fld_25_0 rfl rfl) ?_
 intro a hA
 refine seq_do hA rfl rfl rfl (does_load1 hS BiS_is1_4 rfl 0 rfl rfl) ?_
 intro a hA
 rcases Bool.eq_false_or_eq_true ((b == b')) with hb7 | hb7
 · have hb7' := eq_of_beq hb7
   refine seq_do (v := .bool true) hA rfl rfl rfl (does_bin rfl rfl (fun w => ((bin_eqlB Tryd.underlying4) w).trans (by rw [hb7]))) ?_
   intro a hA
   refine seq_do hA rfl rfl rfl (does_move rfl) ?_
   intro a hA
   refine seq_do (v := .pointer (some ⟨g2, 1, none⟩)) hA rfl rfl rfl (does_field BiS_fld_25_1 rfl rfl) ?_
   intro a hA
   refine seq_do hA rfl rfl rfl (does_load1 hS BiS_is1_23 rfl 1 rfl rfl) ?_
   intro a hA
   refine seq_do (v := .pointer (some ⟨g4, 1, none⟩)) hA rfl rfl rfl (does_field BiS_fld_25_1 rfl rfl) ?_
   intro a hA
   refine seq_do hA rfl rfl rfl (does_load1 hS BiS_is1_23 rfl 0 rfl rfl) ?_
   intro a hA
   rcases Bool.eq_false_or_eq_true (decide (t = t')) with hb8 | hb8
   · have hb8' := of_decide_eq_true hb8
     refine seq_call hA rfl rfl rfl (enters_func  rfl rfl (fun w => by kernel_rfl)) (equalB_any _ _ (hS.rd 3 rfl) (hS.rd 1 rfl) l1 l3 hb8) ?_
     rintro _ w10 ⟨rfl, hb9⟩
     replace hS := hS.call hb9
     refine ⟨_, rfl, ?_⟩
     intro a hA
     refine seq_do (v := .bool true) hA rfl rfl rfl (does_pick rfl rfl rfl rfl) ?_
     intro a hA
     refine seq_do hA rfl rfl rfl (does_move rfl) ?_
     intro a hA
     refine seq_do (v := .pointer (some ⟨g2, 2, none⟩)) hA rfl rfl rfl (does_field BiS_fld_25_2 rfl rfl) ?_
     intro a hA
     refine seq_do hA rfl rfl rfl (does_load1 hS BiS_is1_23 rfl 1 rfl rfl) ?_
     intro a hA
     refine seq_do (v := .pointer (some ⟨g4, 2, none⟩)) hA rfl rfl rfl (does_field BiS_fld_25_2 rfl rfl) ?_
     intro a hA
     refine seq_do hA rfl rfl rfl (does_load1 hS BiS_is1_23 rfl 0 rfl rfl) ?_
     intro a hA
     rcases Bool.eq_false_or_eq_true (decide (q = q')) with hb11 | hb11
     · have hb11' := of_decide_eq_true hb11
       refine seq_call hA rfl rfl rfl (enters_func  rfl rfl (fun w => by kernel_rfl)) (equalB_any _ _ (hS.rd 2 rfl) (hS.rd 0 rfl) l2 l4 hb11) ?_
       rintro _ w13 ⟨rfl, hb12⟩
       replace hS := hS.call hb12
       refine ⟨_, rfl, ?_⟩
       intro a hA
       refine seq_do (v := .bool true) hA rfl rfl rfl (does_pick rfl rfl rfl rfl) ?_
       intro a hA
       refine seq_do hA rfl rfl rfl (does_assign rfl) ?_
       intro a hA
       refine seq_end ?_
       refine hK6 _ _ ?_
       refine wp_ret ?_
       refine hret _ _ ?_
       refine ends (v := .bool true) hA rfl (.cons (res_tmp rfl) .nil) rfl ?_
       subst hr
       exact ⟨by unfold sameF; rw [hb7, hb8, hb11]; try rfl, hS.bel⟩
     · have hb11' := of_decide_eq_false hb11
       refine seq_call hA rfl rfl rfl (enters_func  rfl rfl (fun w => by kernel_rfl)) (equalB_any _ _ (hS.rd 2 rfl) (hS.rd 0 rfl) l2 l4 hb11) ?_
       rintro _ w15 ⟨rfl, hb14⟩
       replace hS := hS.call hb14
       refine ⟨_, rfl, ?_⟩
       intro a hA
       refine seq_do (v := .bool false) hA rfl rfl rfl (does_pick rfl rfl rfl rfl) ?_
       intro a hA
       refine seq_do hA rfl rfl rfl (does_assign rfl) ?_
       intro a hA
       refine seq_end ?_
       refine hK6 _ _ ?_
       refine wp_ret ?_
       refine hret _ _ ?_
       refine ends (v := .bool false) hA rfl (.cons (res_tmp rfl) .nil) rfl ?_
       subst hr
       exact ⟨by unfold sameF; rw [hb7, hb8, hb11]; try rfl, hS.bel⟩
   · have hb8' := of_decide_eq_false hb8
     refine seq_call hA rfl rfl rfl (enters_func  rfl rfl (fun w => by kernel_rfl)) (equalB_any _ _ (hS.rd 3 rfl) (hS.rd 1 rfl) l1 l3 hb8) ?_
     rintro _ w17 ⟨rfl, hb16⟩
     replace hS := hS.call hb16
     refine ⟨_, rfl, ?_⟩
     intro a hA
     refine seq_do (v := .bool false) hA rfl rfl rfl (does_pick rfl rfl rfl rfl) ?_
     intro a hA
     refine seq_do hA rfl rfl rfl (does_move rfl) ?_
     intro a hA
     refine seq_skip hA rfl rfl rfl ?_
     intro a hA
     refine seq_skip hA rfl rfl rfl ?_
     intro a hA
     refine seq_skip hA rfl rfl rfl ?_
     intro a hA
     refine seq_skip hA rfl rfl rfl ?_
     intro a hA
     refine seq_skip hA rfl rfl rfl ?_
     intro a hA
     refine seq_do (v := .bool false) hA rfl rfl rfl (does_pick rfl rfl rfl rfl) ?_
     intro a hA
     refine seq_do hA rfl rfl rfl (does_assign rfl) ?_
     intro a hA
     refine seq_end ?_
     refine hK6 _ _ ?_
     refine wp_ret ?_
     refine hret _ _ ?_
     refine ends (v := .bool false) hA rfl (.cons (res_tmp rfl) .nil) rfl ?_
     subst hr
     exact ⟨by unfold sameF; rw [hb7, hb8]; try rfl, hS.bel⟩
 · have hb7' := ne_of_beq_false hb7
   refine seq_do (v := .bool false) hA rfl rfl rfl (does_bin rfl rfl (fun w => ((bin_eqlB Tryd.underlying4) w).trans (by rw [hb7]))) ?_
   intro a hA
   refine seq_do hA rfl rfl rfl (does_move rfl) ?_
   intro a hA
   refine seq_skip hA rfl rfl rfl ?_
   intro a hA
   refine seq_skip hA rfl rfl rfl ?_
   intro a hA
   refine seq_skip hA rfl rfl rfl ?_
   intro a hA
   refine seq_skip hA rfl rfl rfl ?_
   intro a hA
   refine seq_skip hA rfl rfl rfl ?_
   intro a hA
   refine seq_do (v := .bool false) hA rfl rfl rfl (does_pick rfl rfl rfl rfl) ?_
   intro a hA
   refine seq_do hA rfl rfl rfl (does_move rfl) ?_
   intro a hA
   refine seq_skip hA rfl rfl rfl ?_
   intro a hA
   refine seq_skip hA rfl rfl rfl ?_
   intro a hA
   refine seq_skip hA rfl rfl rfl ?_
   intro a hA
   refine seq_skip hA rfl rfl rfl ?_
   intro a hA
   refine seq_skip hA rfl rfl rfl ?_
   intro a hA
   refine seq_do (v := .bool false) hA rfl rfl rfl (does_pick rfl rfl rfl rfl) ?_
   intro a hA
   refine seq_do hA rfl rfl rfl (does_assign rfl) ?_
   intro a hA
   refine seq_end ?_
   refine hK6 _ _ ?_
   refine wp_ret ?_
   refine hret _ _ ?_
   refine ends (v := .bool false) hA rfl (.cons (res_tmp rfl) .nil) rfl ?_
   subst hr
   exact ⟨by unfold sameF; rw [hb7]; try rfl, hS.bel⟩
theorem sameQ_any {w : World} {p q : Q6} {a1 a2 a3 a4 : Option Addr} {ac1 ac2 ac3 ac4 : Nat} (ha : Nm w p a1 ac1 a2 ac2 a3 ac3 a4 ac4) (hl : LenQ p) {u1 u2 u3 u4 : Option Addr} {uc1 uc2 uc3 uc4 : Nat} (hu : Nm w q u1 uc1 u2 uc2 u3 uc3 u4 uc4) (hm : LenQ q) {r : Bool} (hr : sameQ p q = r) : Calls Tryd.prog 18 #[numV p a1 ac1 a2 ac2 a3 ac3 a4 ac4, numV q u1 uc1 u2 uc2 u3 uc3 u4 uc4] w fun e w' => e = .returned (.bool r) ∧ Below w.heap.size w w' := by
 have hS : St w w [] [(u4, q.q2), (u3, q.t2), (u2, q.q1), (u1, q.t1), (a4, p.q2), (a3, p.t2), (a2, p.q1), (a1, p.t1)] [] := ((((((((St.start w).addR ha.s1.rd).addR ha.s2.rd).addR ha.s3.rd).addR ha.s4.rd).addR hu.s1.rd).addR hu.s2.rd).addR hu.s3.rd).addR hu.s4.rd
 refine walk_of (l := [(0, .agg #[.bool p.b1, .slice a1 p.t1.length ac1, .slice a2 p.q1.length ac2, .bool p.b2, .slice a3 p.t2.length ac3, .slice a4 p.q2.length ac4]), (1, .agg #[.bool q.b1, .slice u1 q.t1.length uc1, .slice u2 q.q1.length uc2, .bool q.b2, .slice u3 q.t2.length uc3, .slice u4 q.q2.length uc4])]) Tryd.func18 rfl Tryd.ntmps18 rfl rfl ?_
 intro Q hret hnorm hP a hA
 refine wp_seq_k (fun K1 hK1 => ?_)
 refine wp_region_lit ?_
 refine seq_new hA hS rfl rfl rfl (fun g => .pointer (some ⟨g, 0, none⟩)) (does_box rfl rfl) rfl ?_
 intro g2 w3 hS a hA
 refine seq_new hA hS rfl rfl rfl (fun g => .pointer (some ⟨g, 0, none⟩)) (does_box rfl rfl) rfl ?_
 intro g4 w5 hS a hA
 refine seq_do hA rfl rfl rfl (does_assign rfl) ?_
 intro a hA
 refine seq_end ?_
 refine hK1 _ _ ?_
 refine wp_seq_k (fun K6 hK6 => ?_)
 refine wp_region_lit ?_
 refine seq_do hA rfl rfl rfl (does_loadS hS BiS_isS_27 rfl 1 rfl (cs := [.bool p.b1, .slice a1 p.t1.length ac1, .slice a2 p.q1.length ac2, .bool p.b2, .slice a3 p.t2.length ac3, .slice a4 p.q2.length ac4]) rfl rfl) ?_
 intro a hA
 rcases Bool.eq_false_or_eq_true (soundQ p) with hb7 | hb7
 · refine seq_call hA rfl rfl rfl (enters_func  rfl rfl (fun w => by kernel_rfl)) (soundQ_any (show Nm _ _ a1 ac1 a2 ac2 a3 ac3 a4 ac4 from ⟨⟨(hS.rd 7 rfl), ha.s1.nil, ha.s1.cap⟩, ⟨(hS.rd 6 rfl), ha.s2.nil, ha.s2.cap⟩, ⟨(hS.rd 5 rfl), ha.s3.nil, ha.s3.cap⟩, ⟨(hS.rd 4 rfl), ha.s4.nil, ha.s4.cap⟩⟩) hl hb7) ?_
   rintro _ w9 ⟨rfl, hb8⟩
   replace hS := hS.call hb8
   refine ⟨_, rfl, ?_⟩
   intro a hA
   refine seq_do hA rfl rfl rfl (does_move rfl) ?_
   intro a hA
   refine seq_do hA rfl rfl rfl (does_loadS hS BiS_isS_27 rfl 0 rfl (cs := [.bool q.b1, .slice u1 q.t1.length uc1, .slice u2 q.q1.length uc2, .bool q.b2, .slice u3 q.t2.length uc3, .slice u4 q.q2.length uc4]) rfl rfl) ?_
   intro a hA
   rcases Bool.eq_false_or_eq_true (soundQ q) with hb10 | hb10
   · refine seq_call hA rfl rfl rfl (enters_func  rfl rfl (fun w => by kernel_rfl)) (soundQ_any (show Nm _ _ u1 uc1 u2 uc2 u3 uc3 u4 uc4 from ⟨⟨(hS.rd 3 rfl), hu.s1.nil, hu.s1.cap⟩, ⟨(hS.rd 2 rfl), hu.s2.nil, hu.s2.cap⟩, ⟨(hS.rd 1 rfl), hu.s3.nil, hu.s3.cap⟩, ⟨(hS.rd 0 rfl), hu.s4.nil, hu.s4.cap⟩⟩) hm hb10) ?_
     rintro _ w12 ⟨rfl, hb11⟩
     replace hS := hS.call hb11
     refine ⟨_, rfl, ?_⟩
     intro a hA
     refine seq_do (v := .bool true) hA rfl rfl rfl (does_pick rfl rfl rfl rfl) ?_
     intro a hA
     refine seq_do hA rfl rfl rfl (does_move rfl) ?_
     intro a hA
     refine seq_do (v := .pointer (some ⟨g2, 0, none⟩)) hA rfl rfl rfl (does_field BiS_fld_27_0 rfl rfl) ?_
     intro a hA
     refine seq_do hA rfl rfl rfl (does_loadS hS BiS_isS_25 rfl 1 rfl (cs := [.bool p.b1, .slice a1 p.t1.length ac1, .slice a2 p.q1.length ac2]) rfl rfl) ?_
     intro a hA
     refine seq_do (v := .pointer (some ⟨g4, 0, none⟩)) hA rfl rfl rfl (does_field BiS_fld_27_0 rfl rfl) ?_
     intro a hA
     refine seq_do hA rfl rfl rfl (does_loadS hS BiS_isS_25 rfl 0 rfl (cs := [.bool q.b1, .slice u1 q.t1.length uc1, .slice u2 q.q1.length uc2]) rfl rfl) ?_
     intro a hA
     rcases Bool.eq_false_or_eq_true (sameF p.b1 p.t1 p.q1 q.b1 q.t1 q.q1) with hb13 | hb13
     · refine seq_call hA rfl rfl rfl (enters_func  rfl rfl (fun w => by kernel_rfl)) (sameFr_any ⟨(hS.rd 7 rfl), ha.s1.nil, ha.s1.cap⟩ ⟨(hS.rd 6 rfl), ha.s2.nil, ha.s2.cap⟩ ⟨(hS.rd 3 rfl), hu.s1.nil, hu.s1.cap⟩ ⟨(hS.rd 2 rfl), hu.s2.nil, hu.s2.cap⟩ hl.l1 hl.l2 hm.l1 hm.l2 hb13) ?_
       rintro _ w15 ⟨rfl, hb14⟩
       replace hS := hS.call hb14
       refine ⟨_, rfl, ?_⟩
       intro a hA
       refine seq_do (v := .bool true) hA rfl rfl rfl (does_pick rfl rfl rfl rfl) ?_
       intro a hA
       refine seq_do hA rfl rfl rfl (does_move rfl) ?_
       intro a hA
       refine seq_do (v := .pointer (some ⟨g2, 3, none⟩)) hA rfl rfl rfl (does_field BiS_fld_27_1 rfl rfl) ?_
       intro a hA
       refine seq_do hA rfl rfl rfl (does_loadS hS BiS_isS_25 rfl 1 rfl (cs := [.bool p.b2, .slice a3 p.t2.length ac3, .slice a4 p.q2.length ac4]) rfl rfl) ?_
       intro a hA
       refine seq_do (v := .pointer (some ⟨g4, 3, none⟩)) hA rfl rfl rfl (does_field BiS_fld_27_1 rfl rfl) ?_
       intro a hA
       refine seq_do hA rfl rfl rfl (does_loadS hS BiS_isS_25 rfl 0 rfl (cs := [.bool q.b2, .slice u3 q.t2.length uc3, .slice u4 q.q2.length uc4]) rfl rfl) ?_
       intro a hA
       rcases Bool.eq_false_or_eq_true (sameF p.b2 p.t2 p.q2 q.b2 q.t2 q.q2) with hb16 | hb16
       · refine seq_call hA rfl rfl rfl (enters_func  rfl rfl (fun w => by kernel_rfl)) (sameFr_any ⟨(hS.rd 5 rfl), ha.s3.nil, ha.s3.cap⟩ ⟨(hS.rd 4 rfl), ha.s4.nil, ha.s4.cap⟩ ⟨(hS.rd 1 rfl), hu.s3.nil, hu.s3.cap⟩ ⟨(hS.rd 0 rfl), hu.s4.nil, hu.s4.cap⟩ hl.l3 hl.l4 hm.l3 hm.l4 hb16) ?_
         rintro _ w18 ⟨rfl, hb17⟩
         replace hS := hS.call hb17
         refine ⟨_, rfl, ?_⟩
         intro a hA
         refine seq_do (v := .bool true) hA rfl rfl rfl (does_pick rfl rfl rfl rfl) ?_
         intro a hA
         refine seq_do hA rfl rfl rfl (does_assign rfl) ?_
         intro a hA
         refine seq_end ?_
         refine hK6 _ _ ?_
         refine wp_ret ?_
         refine hret _ _ ?_
         refine ends (v := .bool true) hA rfl (.cons (res_tmp rfl) .nil) rfl ?_
         subst hr
         exact ⟨by unfold sameQ; rw [hb7, hb10, hb13, hb16]; try rfl, hS.bel⟩
       · refine seq_call hA rfl rfl rfl (enters_func  rfl rfl (fun w => by kernel_rfl)) (sameFr_any ⟨(hS.rd 5 rfl), ha.s3.nil, ha.s3.cap⟩ ⟨(hS.rd 4 rfl), ha.s4.nil, ha.s4.cap⟩ ⟨(hS.rd 1 rfl), hu.s3.nil, hu.s3.cap⟩ ⟨(hS.rd 0 rfl), hu.s4.nil, hu.s4.cap⟩ hl.l3 hl.l4 hm.l3 hm.l4 hb16) ?_
         rintro _ w20 ⟨rfl, hb19⟩
         replace hS := hS.call hb19
         refine ⟨_, rfl, ?_⟩
         intro a hA
         refine seq_do (v := .bool false) hA rfl rfl rfl (does_pick rfl rfl rfl rfl) ?_
         intro a hA
         refine seq_do hA rfl rfl rfl (does_assign rfl) ?_
         intro a hA
         refine seq_end ?_
         refine hK6 _ _ ?_
         refine wp_ret ?_
         refine hret _ _ ?_
         refine ends (v := .bool false) hA rfl (.cons (res_tmp rfl) .nil) rfl ?_
         subst hr
         exact ⟨by unfold sameQ; rw [hb7, hb10, hb13, hb16]; try rfl, hS.bel⟩
     · refine seq_call hA rfl rfl rfl (enters_func  rfl rfl (fun w => by kernel_rfl)) (sameFr_any ⟨(hS.rd 7 rfl), ha.s1.nil, ha.s1.cap⟩ ⟨(hS.rd 6 rfl), ha.s2.nil, ha.s2.cap⟩ ⟨(hS.rd 3 rfl), hu.s1.nil, hu.s1.cap⟩ ⟨(hS.rd 2 rfl), hu.s2.nil, hu.s2.cap⟩ hl.l1 hl.l2 hm.l1 hm.l2 hb13) ?_
       rintro _ w22 ⟨rfl, hb21⟩
       replace hS := hS.call hb21
       refine ⟨_, rfl, ?_⟩
       intro a hA
       refine seq_do (v := .bool false) hA rfl rfl rfl (does_pick rfl rfl rfl rfl) ?_
       intro a hA
       refine seq_do hA rfl rfl rfl (does_move rfl) ?_
       intro a hA
       refine seq_skip hA rfl rfl rfl ?_
       intro a hA
       refine seq_skip hA rfl rfl rfl ?_
       intro a hA
       refine seq_skip hA rfl rfl rfl ?_
       intro a hA
       refine seq_skip hA rfl rfl rfl ?_
       intro a hA
       refine seq_skip hA rfl rfl rfl ?_
       intro a hA
       refine seq_do (v := .bool false) hA rfl rfl rfl (does_pick rfl rfl rfl rfl) ?_
       intro a hA
       refine seq_do hA rfl rfl rfl (does_assign rfl) ?_
       intro a hA
       refine seq_end ?_
       refine hK6 _ _ ?_
       refine wp_ret ?_
       refine hret _ _ ?_
       refine ends (v := .bool false) hA rfl (.cons (res_tmp rfl) .nil) rfl ?_
       subst hr
       exact ⟨by unfold sameQ; rw [hb7, hb10, hb13]; try rfl, hS.bel⟩
   · refine seq_call hA rfl rfl rfl (enters_func  rfl rfl (fun w => by kernel_rfl)) (soundQ_any (show Nm _ _ u1 uc1 u2 uc2 u3 uc3 u4 uc4 from ⟨⟨(hS.rd 3 rfl), hu.s1.nil, hu.s1.cap⟩, ⟨(hS.rd 2 rfl), hu.s2.nil, hu.s2.cap⟩, ⟨(hS.rd 1 rfl), hu.s3.nil, hu.s3.cap⟩, ⟨(hS.rd 0 rfl), hu.s4.nil, hu.s4.cap⟩⟩) hm hb10) ?_
     rintro _ w24 ⟨rfl, hb23⟩
     replace hS := hS.call hb23
     refine ⟨_, rfl, ?_⟩
     intro a hA
     refine seq_do (v := .bool false) hA rfl rfl rfl (does_pick rfl rfl rfl rfl) ?_
     intro a hA
     refine seq_do hA rfl rfl rfl (does_move rfl) ?_
     intro a hA
     refine seq_skip hA rfl rfl rfl ?_
     intro a hA
     refine seq_skip hA rfl rfl rfl ?_
     intro a hA
     refine seq_skip hA rfl rfl rfl ?_
     intro a hA
     refine seq_skip hA rfl rfl rfl ?_
     intro a hA
     refine seq_skip hA rfl rfl rfl ?_
     intro a hA
     refine seq_do (v := .bool false) hA rfl rfl rfl (does_pick rfl rfl rfl rfl) ?_
     intro a hA
     refine seq_do hA rfl rfl rfl (does_move rfl) ?_
     intro a hA
     refine seq_skip hA rfl rfl rfl ?_
     intro a hA
     refine seq_skip hA rfl rfl rfl ?_
     intro a hA
     refine seq_skip hA rfl rfl rfl ?_
     intro a hA
     refine seq_skip hA rfl rfl rfl ?_
     intro a hA
     refine seq_skip hA rfl rfl rfl ?_
     intro a hA
     refine seq_do (v := .bool false) hA rfl rfl rfl (does_pick rfl rfl rfl rfl) ?_
     intro a hA
     refine seq_do hA rfl rfl rfl (does_assign rfl) ?_
     intro a hA
     refine seq_end ?_
     refine hK6 _ _ ?_
     refine wp_ret ?_
     refine hret _ _ ?_
     refine ends (v := .bool false) hA rfl (.cons (res_tmp rfl) .nil) rfl ?_
     subst hr
     exact ⟨by unfold sameQ; rw [hb7, hb10]; try rfl, hS.bel⟩
 · refine seq_call hA rfl rfl rfl (enters_func  rfl rfl (fun w => by kernel_rfl)) (soundQ_any (show Nm _ _ a1 ac1 a2 ac2 a3 ac3 a4 ac4 from ⟨⟨(hS.rd 7 rfl), ha.s1.nil, ha.s1.cap⟩, ⟨(hS.rd 6 rfl), ha.s2.nil, ha.s2.cap⟩, ⟨(hS.rd 5 rfl), ha.s3.nil, ha.s3.cap⟩, ⟨(hS.rd 4 rfl), ha.s4.nil, ha.s4.cap⟩⟩) hl hb7) ?_
   rintro _ w26 ⟨rfl, hb25⟩
   replace hS := hS.call hb25
   refine ⟨_, rfl, ?_⟩
   intro a hA
   refine seq_do hA rfl rfl rfl (does_move rfl) ?_
   intro a hA
   refine seq_skip hA rfl rfl rfl ?_
   intro a hA
   refine seq_skip hA rfl rfl rfl ?_
   intro a hA
   refine seq_do (v := .bool false) hA rfl rfl rfl (does_pick rfl rfl rfl rfl) ?_
   intro a hA
   refine seq_do hA rfl rfl rfl (does_move rfl) ?_
   intro a hA
   refine seq_skip hA rfl rfl rfl ?_
   intro a hA
   refine seq_skip hA rfl rfl rfl ?_
   intro a hA
   refine seq_skip hA rfl rfl rfl ?_
   intro a hA
   refine seq_skip hA rfl rfl rfl ?_
   intro a hA
   refine seq_skip hA rfl rfl rfl ?_
   intro a hA
   refine seq_do (v := .bool false) hA rfl rfl rfl (does_pick rfl rfl rfl rfl) ?_
   intro a hA
   refine seq_do hA rfl rfl rfl (does_move rfl) ?_
   intro a hA
   refine seq_skip hA rfl rfl rfl ?_
   intro a hA
   refine seq_skip hA rfl rfl rfl ?_
   intro a hA
   refine seq_skip hA rfl rfl rfl ?_
   intro a hA
   refine seq_skip hA rfl rfl rfl ?_
   intro a hA
   refine seq_skip hA rfl rfl rfl ?_
   intro a hA
   refine seq_do (v := .bool false) hA rfl rfl rfl (does_pick rfl rfl rfl rfl) ?_
   intro a hA
   refine seq_do hA rfl rfl rfl (does_assign rfl) ?_
   intro a hA
   refine seq_end ?_
   refine hK6 _ _ ?_
   refine wp_ret ?_
   refine hret _ _ ?_
   refine ends (v := .bool false) hA rfl (.cons (res_tmp rfl) .nil) rfl ?_
   subst hr
   exact ⟨by unfold sameQ; rw [hb7]; try rfl, hS.bel⟩
end Go.Proofs.YtoeofpncdchicaaDoor
namespace Go.Proofs.YtoeofpncdchicaaDoor.G
open Go.RowKit
set_option linter.unusedVariables false
set_option linter.unusedSimpArgs false
set_option maxRecDepth 100000
theorem ByW_is1_4 : Is1 Tryd.prog 4 := ⟨⟨_, Tryd.underlying4, rfl⟩, by kernel_rfl⟩
theorem ByW_is1_5 : Is1 Tryd.prog 5 := ⟨⟨_, Tryd.underlying5, rfl⟩, by kernel_rfl⟩
theorem ByW_is1_52 : Is1 Tryd.prog 52 := ⟨⟨_, Tryd.underlying52, rfl⟩, by kernel_rfl⟩
theorem ByW_fld_25_1 : FieldAt Tryd.prog 25 1 1 := ⟨_, _, Tryd.underlying25, rfl, rfl, by kernel_rfl⟩
theorem ByW_fld_27_0 : FieldAt Tryd.prog 27 0 0 := ⟨_, _, Tryd.underlying27, rfl, rfl, by kernel_rfl⟩
theorem ByW_fld_47_2 : FieldAt Tryd.prog 47 2 2 := ⟨_, _, Tryd.underlying47, rfl, rfl, by kernel_rfl⟩
theorem ByW_isS_27 : IsS Tryd.prog 27 6 := ⟨⟨_, Tryd.underlying27⟩, by kernel_rfl⟩
theorem ByW_isS_47 : IsS Tryd.prog 47 3 := ⟨⟨_, Tryd.underlying47⟩, by kernel_rfl⟩
theorem made_one : (madeCells (Value.int .u32 0).cells (1 * 1)).toList = [Value.int .u32 0] := by
  unfold madeCells
  rw [Array.toList_map, Array.toList_range]
  rfl
theorem words_258 : words 258 = [258] := by rw [words_pos (by omega)]; simp [words_zero]
theorem len_258 : (words 258).length ≤ 512 := by rw [words_258]; decide
/-- A word of a row of the call's own. -/
theorem rd_row {w0 w : World} {L : List Ck} (hM : Mg w0 w L) (k : Nat) {g cap x : Nat} (hk : L[k]? = some (.row 52 1 (.slice (some ⟨g, 0, none⟩) 1 cap) 1 [.int .u32 ((x : Nat) : Int)])) (hx : x < 4294967296) : Sc w (some ⟨g, 0, none⟩) cap [x] := by
  have hr : w.ownsRow w0.heap.size 52 1 (.slice (some ⟨g, 0, none⟩) 1 cap) 1 [.int .u32 ((x : Nat) : Int)] := hM.has k hk
  refine ⟨⟨fun y hy => by rw [List.mem_singleton] at hy; omega, fun _ => ⟨g, 0, rfl, ?_, fun j hj => ?_⟩⟩, (fun h => (by cases h)), ?_⟩
  · rcases hr.2 with ⟨he, _⟩ | ⟨g', c', cur, he, h1, h2, _⟩
    · cases he
    · cases he; exact (Array.getElem?_eq_some_iff.1 h2).1
  · have e : j = 0 := by simp at hj; omega
    subst e
    rw [World.ownsRow.cellAt hr 0 (by decide)]
    rfl
  · rcases hr.2 with ⟨he, _⟩ | ⟨g', c', cur, he, _, _, h3, _⟩
    · cases he
    · cases he; exact h3
theorem row_cellsZ {w0 w : World} {L : List Ck} (hM : Mg w0 w L) (k : Nat) {e : TypeId} {sz g n cap : Nat} {xs : List Value} (hk : L[k]? = some (.row e sz (.slice (some ⟨g, 0, none⟩) n cap) n xs)) : ∀ j u, xs[j]? = some u → w.cell? ⟨g, j, none⟩ = some u := by
  intro j u hj
  have hr : w.ownsRow w0.heap.size e sz (.slice (some ⟨g, 0, none⟩) n cap) n xs := hM.has k hk
  have hlt := (List.getElem?_eq_some_iff.1 hj).1
  rw [World.ownsRow.cellAt hr j (by rw [← hr.1]; exact hlt)]
  exact hj
theorem row_ltZ {w0 w : World} {L : List Ck} (hM : Mg w0 w L) (k : Nat) {e : TypeId} {sz g n cap : Nat} {xs : List Value} (hk : L[k]? = some (.row e sz (.slice (some ⟨g, 0, none⟩) n cap) n xs)) : g < w.heap.size := by
  have hr : w.ownsRow w0.heap.size e sz (.slice (some ⟨g, 0, none⟩) n cap) n xs := hM.has k hk
  rcases hr.2 with ⟨he, _⟩ | ⟨g', c', cur, he, h1, h2, _⟩
  · cases he
  · cases he; exact (Array.getElem?_eq_some_iff.1 h2).1
theorem trim_fix0 {w : World} {so : Option Addr} {bq oq : Nat} (hq1 : so = some ⟨bq, oq, none⟩) (hq2 : bq < w.heap.size) (hq3 : w.cell? ⟨bq, oq + 0, none⟩ = some (.int .u32 0)) (hq4 : w.cell? ⟨bq, oq + 1, none⟩ = some (.int .u32 0)) : Calls Tryd.prog 92 #[.slice so 2 2] w fun e w' => e = .returned (.slice so 0 2) ∧ Below w.heap.size w w' := by
 have hM : Mg w w ([]) := Mg.start w
 refine walk_of (l := [(0, .slice so 2 2)]) Tryd.func92 rfl Tryd.ntmps92 rfl rfl ?_
 intro Q hret hnorm hP a hA
 refine wp_seq_k (fun K1 hK1 => ?_)
 refine wp_region_lit ?_
 refine seq_do hA rfl rfl rfl (does_assign rfl) ?_
 intro a hA
 refine seq_end ?_
 refine hK1 _ _ ?_
 refine wp_seq_k (fun K2 hK2 => ?_)
 refine wp_block ?_
 refine wp_loop_rounds 3 ?_
 refine rounds_k ?_
 intro K3 hK3
 refine wp_seq_k (fun K4 hK4 => ?_)
 refine wp_seq_k (fun K5 hK5 => ?_)
 refine wp_region_lit ?_
 refine seq_do hA rfl rfl rfl (does_move rfl) ?_
 intro a hA
 refine seq_do (v := .int .i64 2) hA rfl rfl rfl (does_len Tryd.underlying23 rfl) ?_
 intro a hA
 refine seq_do (v := .bool true) hA rfl rfl rfl (does_bin rfl rfl (fun w => by kernel_rfl)) ?_
 intro a hA
 refine seq_do hA rfl rfl rfl (does_move rfl) ?_
 intro a hA
 refine seq_do hA rfl rfl rfl (does_move rfl) ?_
 intro a hA
 refine seq_do hA rfl rfl rfl (does_move rfl) ?_
 intro a hA
 refine seq_do (v := .int .i64 2) hA rfl rfl rfl (does_len Tryd.underlying23 rfl) ?_
 intro a hA
 refine seq_do (v := .int .i64 1) hA rfl rfl rfl (does_bin rfl rfl (fun w => by kernel_rfl)) ?_
 intro a hA
 refine seq_do (v := .pointer (some ⟨bq, oq + 1, none⟩)) hA rfl rfl rfl (does_indexRow (k := 1) Tryd.underlying23 (by kernel_rfl) rfl rfl rfl hq1 (by decide)) ?_
 intro a hA
 refine seq_do (v := .int .u32 0) hA rfl rfl rfl (m_loadR hM hq2 hq4 ByW_is1_52 rfl) ?_
 intro a hA
 refine seq_do (v := .bool true) hA rfl rfl rfl (does_bin rfl rfl (fun w => by kernel_rfl)) ?_
 intro a hA
 refine seq_do (v := .bool true) hA rfl rfl rfl (does_pick rfl rfl rfl rfl) ?_
 intro a hA
 refine seq_end ?_
 refine hK5 _ _ ?_
 refine wp_cond_true (hA.ev rfl) ?_
 refine wp_skip ?_
 refine hK4 _ _ ?_
 refine wp_block ?_
 refine wp_region_lit ?_
 refine seq_do hA rfl rfl rfl (does_move rfl) ?_
 intro a hA
 refine seq_do hA rfl rfl rfl (does_move rfl) ?_
 intro a hA
 refine seq_do (v := .int .i64 2) hA rfl rfl rfl (does_len Tryd.underlying23 rfl) ?_
 intro a hA
 refine seq_do (v := .int .i64 1) hA rfl rfl rfl (does_bin rfl rfl (fun w => by kernel_rfl)) ?_
 intro a hA
 refine seq_do (v := .slice so 1 2) hA rfl rfl rfl (does_upto (sz := 1) (hi := 1) Tryd.underlying23 (by kernel_rfl) rfl rfl rfl (by decide)) ?_
 intro a hA
 refine seq_do hA rfl rfl rfl (does_assign rfl) ?_
 intro a hA
 refine seq_end ?_
 refine hK3 _ _ ?_
 refine rounds_k ?_
 intro K6 hK6
 refine wp_seq_k (fun K7 hK7 => ?_)
 refine wp_seq_k (fun K8 hK8 => ?_)
 refine wp_region_lit ?_
 refine seq_do hA rfl rfl rfl (does_move rfl) ?_
 intro a hA
 refine seq_do (v := .int .i64 1) hA rfl rfl rfl (does_len Tryd.underlying23 rfl) ?_
 intro a hA
 refine seq_do (v := .bool true) hA rfl rfl rfl (does_bin rfl rfl (fun w => by kernel_rfl)) ?_
 intro a hA
 refine seq_do hA rfl rfl rfl (does_move rfl) ?_
 intro a hA
 refine seq_do hA rfl rfl rfl (does_move rfl) ?_
 intro a hA
 refine seq_do hA rfl rfl rfl (does_move rfl) ?_
 intro a hA
 refine seq_do (v := .int .i64 1) hA rfl rfl rfl (does_len Tryd.underlying23 rfl) ?_
 intro a hA
 refine seq_do (v := .int .i64 0) hA rfl rfl rfl (does_bin rfl rfl (fun w => by kernel_rfl)) ?_
 intro a hA
 refine seq_do (v := .pointer (some ⟨bq, oq + 0, none⟩)) hA rfl rfl rfl (does_indexRow (k := 0) Tryd.underlying23 (by kernel_rfl) rfl rfl rfl hq1 (by decide)) ?_
 intro a hA
 refine seq_do (v := .int .u32 0) hA rfl rfl rfl (m_loadR hM hq2 hq3 ByW_is1_52 rfl) ?_
 intro a hA
 refine seq_do (v := .bool true) hA rfl rfl rfl (does_bin rfl rfl (fun w => by kernel_rfl)) ?_
 intro a hA
 refine seq_do (v := .bool true) hA rfl rfl rfl (does_pick rfl rfl rfl rfl) ?_
 intro a hA
 refine seq_end ?_
 refine hK8 _ _ ?_
 refine wp_cond_true (hA.ev rfl) ?_
 refine wp_skip ?_
 refine hK7 _ _ ?_
 refine wp_block ?_
 refine wp_region_lit ?_
 refine seq_do hA rfl rfl rfl (does_move rfl) ?_
 intro a hA
 refine seq_do hA rfl rfl rfl (does_move rfl) ?_
 intro a hA
 refine seq_do (v := .int .i64 1) hA rfl rfl rfl (does_len Tryd.underlying23 rfl) ?_
 intro a hA
 refine seq_do (v := .int .i64 0) hA rfl rfl rfl (does_bin rfl rfl (fun w => by kernel_rfl)) ?_
 intro a hA
 refine seq_do (v := .slice so 0 2) hA rfl rfl rfl (does_upto (sz := 1) (hi := 0) Tryd.underlying23 (by kernel_rfl) rfl rfl rfl (by decide)) ?_
 intro a hA
 refine seq_do hA rfl rfl rfl (does_assign rfl) ?_
 intro a hA
 refine seq_end ?_
 refine hK6 _ _ ?_
 refine rounds_k ?_
 intro K9 hK9
 refine wp_seq_k (fun K10 hK10 => ?_)
 refine wp_seq_k (fun K11 hK11 => ?_)
 refine wp_region_lit ?_
 refine seq_do hA rfl rfl rfl (does_move rfl) ?_
 intro a hA
 refine seq_do (v := .int .i64 0) hA rfl rfl rfl (does_len Tryd.underlying23 rfl) ?_
 intro a hA
 refine seq_do (v := .bool false) hA rfl rfl rfl (does_bin rfl rfl (fun w => by kernel_rfl)) ?_
 intro a hA
 refine seq_do hA rfl rfl rfl (does_move rfl) ?_
 intro a hA
 refine seq_skip hA rfl rfl rfl ?_
 intro a hA
 refine seq_skip hA rfl rfl rfl ?_
 intro a hA
 refine seq_skip hA rfl rfl rfl ?_
 intro a hA
 refine seq_skip hA rfl rfl rfl ?_
 intro a hA
 refine seq_skip hA rfl rfl rfl ?_
 intro a hA
 refine seq_skip hA rfl rfl rfl ?_
 intro a hA
 refine seq_skip hA rfl rfl rfl ?_
 intro a hA
 refine seq_do (v := .bool false) hA rfl rfl rfl (does_pick rfl rfl rfl rfl) ?_
 intro a hA
 refine seq_end ?_
 refine hK11 _ _ ?_
 refine wp_cond_false (hA.ev rfl) ?_
 refine wp_exit ?_
 refine hK2 _ _ ?_
 refine wp_seq_k (fun K12 hK12 => ?_)
 refine wp_region_lit ?_
 refine seq_do hA rfl rfl rfl (does_move rfl) ?_
 intro a hA
 refine seq_do hA rfl rfl rfl (does_assign rfl) ?_
 intro a hA
 refine seq_end ?_
 refine hK12 _ _ ?_
 refine wp_ret ?_
 refine hret _ _ ?_
 refine ends (v := .slice so 0 2) hA rfl (.cons (res_tmp rfl) .nil) rfl ?_
 exact ⟨rfl, hM.bel⟩
theorem wof_fix0 {w : World} : Calls Tryd.prog 70 #[.int .u64 0] w fun e w' => ∃ g, e = .returned (.slice (some ⟨g, 0, none⟩) 0 2) ∧ Mg w w' [.row 52 1 (.slice (some ⟨g, 0, none⟩) 0 2) 0 []] := by
 have hM : Mg w w ([]) := Mg.start w
 refine walk_of (l := [(0, .int .u64 0)]) Tryd.func70 rfl Tryd.ntmps70 rfl rfl ?_
 intro Q hret hnorm hP a hA
 refine wp_seq_k (fun K1 hK1 => ?_)
 refine wp_region_lit ?_
 refine seq_do hA rfl rfl rfl (does_assign rfl) ?_
 intro a hA
 refine seq_end ?_
 refine hK1 _ _ ?_
 refine wp_seq_k (fun K2 hK2 => ?_)
 refine wp_region_lit ?_
 refine seq_do hA rfl rfl rfl (does_move rfl) ?_
 intro a hA
 refine seq_do (v := .int .u32 0) hA rfl rfl rfl (does_convert rfl (fun w => by kernel_rfl)) ?_
 intro a hA
 refine seq_do hA rfl rfl rfl (does_move rfl) ?_
 intro a hA
 refine seq_do (v := .int .u64 0) hA rfl rfl rfl (does_bin rfl rfl (fun w => by kernel_rfl)) ?_
 intro a hA
 refine seq_do (v := .int .u32 0) hA rfl rfl rfl (does_convert rfl (fun w => by kernel_rfl)) ?_
 intro a hA
 refine s_litE (e := 52) (sz := 1) (m := 2) (vs := [.int .u32 0, .int .u32 0]) hA hM rfl rfl rfl (does_buildSlice rfl (by kernel_rfl)) rfl rfl (.inl (by decide)) ?_
 intro g3 w4 hM a hA
 have hr9 : _ := hM.has 0 rfl
 have hc9 : ∀ j u, ([.int .u32 0, .int .u32 0] : List Value)[j]? = some u → World.cell? _ ⟨g3, j, none⟩ = some u := row_cellsZ hM 0 rfl
 refine seq_call hA rfl rfl rfl (enters_func rfl rfl (fun w => by kernel_rfl)) (trim_fix0 (so := some ⟨g3, 0, none⟩) rfl (row_ltZ hM 0 rfl) (hc9 0 _ rfl) (hc9 1 _ rfl)) ?_
 rintro _ w6 ⟨rfl, hb5⟩
 replace hM := hM.call hb5
 refine ⟨_, rfl, ?_⟩
 intro a hA
 refine seq_do hA rfl rfl rfl (does_assign rfl) ?_
 intro a hA
 refine seq_end ?_
 refine hK2 _ _ ?_
 refine wp_ret ?_
 refine hret _ _ ?_
 refine ends (v := .slice (some ⟨g3, 0, none⟩) 0 2) hA rfl (.cons (res_tmp rfl) .nil) rfl ?_
 have h9 := hM.rowCut 0 rfl (m := 0) (by decide)
 exact ⟨g3, rfl, h9⟩
theorem nof_fix0 {w : World} : Calls Tryd.prog 40 #[.int .u64 0] w fun e w' => ∃ g, e = .returned (.slice (some ⟨g, 0, none⟩) 0 2) ∧ Mg w w' [.row 52 1 (.slice (some ⟨g, 0, none⟩) 0 2) 0 []] := by
 have hM : Mg w w ([]) := Mg.start w
 refine walk_of (l := [(0, .int .u64 0)]) Tryd.func40 rfl Tryd.ntmps40 rfl rfl ?_
 intro Q hret hnorm hP a hA
 refine wp_seq_k (fun K1 hK1 => ?_)
 refine wp_region_lit ?_
 refine seq_do hA rfl rfl rfl (does_assign rfl) ?_
 intro a hA
 refine seq_end ?_
 refine hK1 _ _ ?_
 refine wp_seq_k (fun K2 hK2 => ?_)
 refine wp_region_lit ?_
 refine seq_do hA rfl rfl rfl (does_move rfl) ?_
 intro a hA
 refine seq_call hA rfl rfl rfl (enters_func rfl rfl (fun w => by kernel_rfl)) (wof_fix0) ?_
 rintro _ w5 ⟨g3, rfl, hM4⟩
 replace hM : Mg w w5 (.row 52 1 (.slice (some ⟨g3, 0, none⟩) 0 2) 0 ([]) :: []) := (hM.both hM4 (noBld_quiet quietL_nil) (noBld_cons (by simp) (noBld_quiet quietL_nil)))
 refine ⟨_, rfl, ?_⟩
 intro a hA
 refine seq_do hA rfl rfl rfl (does_assign rfl) ?_
 intro a hA
 refine seq_end ?_
 refine hK2 _ _ ?_
 refine wp_ret ?_
 refine hret _ _ ?_
 refine ends (v := .slice (some ⟨g3, 0, none⟩) 0 2) hA rfl (.cons (res_tmp rfl) .nil) rfl ?_
 exact ⟨_, rfl, hM⟩
theorem trim_fix1 {w : World} {so : Option Addr} {bq oq : Nat} (hq1 : so = some ⟨bq, oq, none⟩) (hq2 : bq < w.heap.size) (hq3 : w.cell? ⟨bq, oq + 0, none⟩ = some (.int .u32 1)) (hq4 : w.cell? ⟨bq, oq + 1, none⟩ = some (.int .u32 0)) : Calls Tryd.prog 92 #[.slice so 2 2] w fun e w' => e = .returned (.slice so 1 2) ∧ Below w.heap.size w w' := by
 have hM : Mg w w ([]) := Mg.start w
 refine walk_of (l := [(0, .slice so 2 2)]) Tryd.func92 rfl Tryd.ntmps92 rfl rfl ?_
 intro Q hret hnorm hP a hA
 refine wp_seq_k (fun K1 hK1 => ?_)
 refine wp_region_lit ?_
 refine seq_do hA rfl rfl rfl (does_assign rfl) ?_
 intro a hA
 refine seq_end ?_
 refine hK1 _ _ ?_
 refine wp_seq_k (fun K2 hK2 => ?_)
 refine wp_block ?_
 refine wp_loop_rounds 3 ?_
 refine rounds_k ?_
 intro K3 hK3
 refine wp_seq_k (fun K4 hK4 => ?_)
 refine wp_seq_k (fun K5 hK5 => ?_)
 refine wp_region_lit ?_
 refine seq_do hA rfl rfl rfl (does_move rfl) ?_
 intro a hA
 refine seq_do (v := .int .i64 2) hA rfl rfl rfl (does_len Tryd.underlying23 rfl) ?_
 intro a hA
 refine seq_do (v := .bool true) hA rfl rfl rfl (does_bin rfl rfl (fun w => by kernel_rfl)) ?_
 intro a hA
 refine seq_do hA rfl rfl rfl (does_move rfl) ?_
 intro a hA
 refine seq_do hA rfl rfl rfl (does_move rfl) ?_
 intro a hA
 refine seq_do hA rfl rfl rfl (does_move rfl) ?_
 intro a hA
 refine seq_do (v := .int .i64 2) hA rfl rfl rfl (does_len Tryd.underlying23 rfl) ?_
 intro a hA
 refine seq_do (v := .int .i64 1) hA rfl rfl rfl (does_bin rfl rfl (fun w => by kernel_rfl)) ?_
 intro a hA
 refine seq_do (v := .pointer (some ⟨bq, oq + 1, none⟩)) hA rfl rfl rfl (does_indexRow (k := 1) Tryd.underlying23 (by kernel_rfl) rfl rfl rfl hq1 (by decide)) ?_
 intro a hA
 refine seq_do (v := .int .u32 0) hA rfl rfl rfl (m_loadR hM hq2 hq4 ByW_is1_52 rfl) ?_
 intro a hA
 refine seq_do (v := .bool true) hA rfl rfl rfl (does_bin rfl rfl (fun w => by kernel_rfl)) ?_
 intro a hA
 refine seq_do (v := .bool true) hA rfl rfl rfl (does_pick rfl rfl rfl rfl) ?_
 intro a hA
 refine seq_end ?_
 refine hK5 _ _ ?_
 refine wp_cond_true (hA.ev rfl) ?_
 refine wp_skip ?_
 refine hK4 _ _ ?_
 refine wp_block ?_
 refine wp_region_lit ?_
 refine seq_do hA rfl rfl rfl (does_move rfl) ?_
 intro a hA
 refine seq_do hA rfl rfl rfl (does_move rfl) ?_
 intro a hA
 refine seq_do (v := .int .i64 2) hA rfl rfl rfl (does_len Tryd.underlying23 rfl) ?_
 intro a hA
 refine seq_do (v := .int .i64 1) hA rfl rfl rfl (does_bin rfl rfl (fun w => by kernel_rfl)) ?_
 intro a hA
 refine seq_do (v := .slice so 1 2) hA rfl rfl rfl (does_upto (sz := 1) (hi := 1) Tryd.underlying23 (by kernel_rfl) rfl rfl rfl (by decide)) ?_
 intro a hA
 refine seq_do hA rfl rfl rfl (does_assign rfl) ?_
 intro a hA
 refine seq_end ?_
 refine hK3 _ _ ?_
 refine rounds_k ?_
 intro K6 hK6
 refine wp_seq_k (fun K7 hK7 => ?_)
 refine wp_seq_k (fun K8 hK8 => ?_)
 refine wp_region_lit ?_
 refine seq_do hA rfl rfl rfl (does_move rfl) ?_
 intro a hA
 refine seq_do (v := .int .i64 1) hA rfl rfl rfl (does_len Tryd.underlying23 rfl) ?_
 intro a hA
 refine seq_do (v := .bool true) hA rfl rfl rfl (does_bin rfl rfl (fun w => by kernel_rfl)) ?_
 intro a hA
 refine seq_do hA rfl rfl rfl (does_move rfl) ?_
 intro a hA
 refine seq_do hA rfl rfl rfl (does_move rfl) ?_
 intro a hA
 refine seq_do hA rfl rfl rfl (does_move rfl) ?_
 intro a hA
 refine seq_do (v := .int .i64 1) hA rfl rfl rfl (does_len Tryd.underlying23 rfl) ?_
 intro a hA
 refine seq_do (v := .int .i64 0) hA rfl rfl rfl (does_bin rfl rfl (fun w => by kernel_rfl)) ?_
 intro a hA
 refine seq_do (v := .pointer (some ⟨bq, oq + 0, none⟩)) hA rfl rfl rfl (does_indexRow (k := 0) Tryd.underlying23 (by kernel_rfl) rfl rfl rfl hq1 (by decide)) ?_
 intro a hA
 refine seq_do (v := .int .u32 1) hA rfl rfl rfl (m_loadR hM hq2 hq3 ByW_is1_52 rfl) ?_
 intro a hA
 refine seq_do (v := .bool false) hA rfl rfl rfl (does_bin rfl rfl (fun w => by kernel_rfl)) ?_
 intro a hA
 refine seq_do (v := .bool false) hA rfl rfl rfl (does_pick rfl rfl rfl rfl) ?_
 intro a hA
 refine seq_end ?_
 refine hK8 _ _ ?_
 refine wp_cond_false (hA.ev rfl) ?_
 refine wp_exit ?_
 refine hK2 _ _ ?_
 refine wp_seq_k (fun K9 hK9 => ?_)
 refine wp_region_lit ?_
 refine seq_do hA rfl rfl rfl (does_move rfl) ?_
 intro a hA
 refine seq_do hA rfl rfl rfl (does_assign rfl) ?_
 intro a hA
 refine seq_end ?_
 refine hK9 _ _ ?_
 refine wp_ret ?_
 refine hret _ _ ?_
 refine ends (v := .slice so 1 2) hA rfl (.cons (res_tmp rfl) .nil) rfl ?_
 exact ⟨rfl, hM.bel⟩
theorem wof_fix1 {w : World} : Calls Tryd.prog 70 #[.int .u64 1] w fun e w' => ∃ g, e = .returned (.slice (some ⟨g, 0, none⟩) 1 2) ∧ Mg w w' [.row 52 1 (.slice (some ⟨g, 0, none⟩) 1 2) 1 [.int .u32 1]] := by
 have hM : Mg w w ([]) := Mg.start w
 refine walk_of (l := [(0, .int .u64 1)]) Tryd.func70 rfl Tryd.ntmps70 rfl rfl ?_
 intro Q hret hnorm hP a hA
 refine wp_seq_k (fun K1 hK1 => ?_)
 refine wp_region_lit ?_
 refine seq_do hA rfl rfl rfl (does_assign rfl) ?_
 intro a hA
 refine seq_end ?_
 refine hK1 _ _ ?_
 refine wp_seq_k (fun K2 hK2 => ?_)
 refine wp_region_lit ?_
 refine seq_do hA rfl rfl rfl (does_move rfl) ?_
 intro a hA
 refine seq_do (v := .int .u32 1) hA rfl rfl rfl (does_convert rfl (fun w => by kernel_rfl)) ?_
 intro a hA
 refine seq_do hA rfl rfl rfl (does_move rfl) ?_
 intro a hA
 refine seq_do (v := .int .u64 0) hA rfl rfl rfl (does_bin rfl rfl (fun w => by kernel_rfl)) ?_
 intro a hA
 refine seq_do (v := .int .u32 0) hA rfl rfl rfl (does_convert rfl (fun w => by kernel_rfl)) ?_
 intro a hA
 refine s_litE (e := 52) (sz := 1) (m := 2) (vs := [.int .u32 1, .int .u32 0]) hA hM rfl rfl rfl (does_buildSlice rfl (by kernel_rfl)) rfl rfl (.inl (by decide)) ?_
 intro g3 w4 hM a hA
 have hr9 : _ := hM.has 0 rfl
 have hc9 : ∀ j u, ([.int .u32 1, .int .u32 0] : List Value)[j]? = some u → World.cell? _ ⟨g3, j, none⟩ = some u := row_cellsZ hM 0 rfl
 refine seq_call hA rfl rfl rfl (enters_func rfl rfl (fun w => by kernel_rfl)) (trim_fix1 (so := some ⟨g3, 0, none⟩) rfl (row_ltZ hM 0 rfl) (hc9 0 _ rfl) (hc9 1 _ rfl)) ?_
 rintro _ w6 ⟨rfl, hb5⟩
 replace hM := hM.call hb5
 refine ⟨_, rfl, ?_⟩
 intro a hA
 refine seq_do hA rfl rfl rfl (does_assign rfl) ?_
 intro a hA
 refine seq_end ?_
 refine hK2 _ _ ?_
 refine wp_ret ?_
 refine hret _ _ ?_
 refine ends (v := .slice (some ⟨g3, 0, none⟩) 1 2) hA rfl (.cons (res_tmp rfl) .nil) rfl ?_
 have h9 := hM.rowCut 0 rfl (m := 1) (by decide)
 exact ⟨g3, rfl, h9⟩
theorem nof_fix1 {w : World} : Calls Tryd.prog 40 #[.int .u64 1] w fun e w' => ∃ g, e = .returned (.slice (some ⟨g, 0, none⟩) 1 2) ∧ Mg w w' [.row 52 1 (.slice (some ⟨g, 0, none⟩) 1 2) 1 [.int .u32 1]] := by
 have hM : Mg w w ([]) := Mg.start w
 refine walk_of (l := [(0, .int .u64 1)]) Tryd.func40 rfl Tryd.ntmps40 rfl rfl ?_
 intro Q hret hnorm hP a hA
 refine wp_seq_k (fun K1 hK1 => ?_)
 refine wp_region_lit ?_
 refine seq_do hA rfl rfl rfl (does_assign rfl) ?_
 intro a hA
 refine seq_end ?_
 refine hK1 _ _ ?_
 refine wp_seq_k (fun K2 hK2 => ?_)
 refine wp_region_lit ?_
 refine seq_do hA rfl rfl rfl (does_move rfl) ?_
 intro a hA
 refine seq_call hA rfl rfl rfl (enters_func rfl rfl (fun w => by kernel_rfl)) (wof_fix1) ?_
 rintro _ w5 ⟨g3, rfl, hM4⟩
 replace hM : Mg w w5 (.row 52 1 (.slice (some ⟨g3, 0, none⟩) 1 2) 1 ([.int .u32 1]) :: []) := (hM.both hM4 (noBld_quiet quietL_nil) (noBld_cons (by simp) (noBld_quiet quietL_nil)))
 refine ⟨_, rfl, ?_⟩
 intro a hA
 refine seq_do hA rfl rfl rfl (does_assign rfl) ?_
 intro a hA
 refine seq_end ?_
 refine hK2 _ _ ?_
 refine wp_ret ?_
 refine hret _ _ ?_
 refine ends (v := .slice (some ⟨g3, 0, none⟩) 1 2) hA rfl (.cons (res_tmp rfl) .nil) rfl ?_
 exact ⟨_, rfl, hM⟩
theorem trim_fix258 {w : World} {so : Option Addr} {bq oq : Nat} (hq1 : so = some ⟨bq, oq, none⟩) (hq2 : bq < w.heap.size) (hq3 : w.cell? ⟨bq, oq + 0, none⟩ = some (.int .u32 258)) (hq4 : w.cell? ⟨bq, oq + 1, none⟩ = some (.int .u32 0)) : Calls Tryd.prog 92 #[.slice so 2 2] w fun e w' => e = .returned (.slice so 1 2) ∧ Below w.heap.size w w' := by
 have hM : Mg w w ([]) := Mg.start w
 refine walk_of (l := [(0, .slice so 2 2)]) Tryd.func92 rfl Tryd.ntmps92 rfl rfl ?_
 intro Q hret hnorm hP a hA
 refine wp_seq_k (fun K1 hK1 => ?_)
 refine wp_region_lit ?_
 refine seq_do hA rfl rfl rfl (does_assign rfl) ?_
 intro a hA
 refine seq_end ?_
 refine hK1 _ _ ?_
 refine wp_seq_k (fun K2 hK2 => ?_)
 refine wp_block ?_
 refine wp_loop_rounds 3 ?_
 refine rounds_k ?_
 intro K3 hK3
 refine wp_seq_k (fun K4 hK4 => ?_)
 refine wp_seq_k (fun K5 hK5 => ?_)
 refine wp_region_lit ?_
 refine seq_do hA rfl rfl rfl (does_move rfl) ?_
 intro a hA
 refine seq_do (v := .int .i64 2) hA rfl rfl rfl (does_len Tryd.underlying23 rfl) ?_
 intro a hA
 refine seq_do (v := .bool true) hA rfl rfl rfl (does_bin rfl rfl (fun w => by kernel_rfl)) ?_
 intro a hA
 refine seq_do hA rfl rfl rfl (does_move rfl) ?_
 intro a hA
 refine seq_do hA rfl rfl rfl (does_move rfl) ?_
 intro a hA
 refine seq_do hA rfl rfl rfl (does_move rfl) ?_
 intro a hA
 refine seq_do (v := .int .i64 2) hA rfl rfl rfl (does_len Tryd.underlying23 rfl) ?_
 intro a hA
 refine seq_do (v := .int .i64 1) hA rfl rfl rfl (does_bin rfl rfl (fun w => by kernel_rfl)) ?_
 intro a hA
 refine seq_do (v := .pointer (some ⟨bq, oq + 1, none⟩)) hA rfl rfl rfl (does_indexRow (k := 1) Tryd.underlying23 (by kernel_rfl) rfl rfl rfl hq1 (by decide)) ?_
 intro a hA
 refine seq_do (v := .int .u32 0) hA rfl rfl rfl (m_loadR hM hq2 hq4 ByW_is1_52 rfl) ?_
 intro a hA
 refine seq_do (v := .bool true) hA rfl rfl rfl (does_bin rfl rfl (fun w => by kernel_rfl)) ?_
 intro a hA
 refine seq_do (v := .bool true) hA rfl rfl rfl (does_pick rfl rfl rfl rfl) ?_
 intro a hA
 refine seq_end ?_
 refine hK5 _ _ ?_
 refine wp_cond_true (hA.ev rfl) ?_
 refine wp_skip ?_
 refine hK4 _ _ ?_
 refine wp_block ?_
 refine wp_region_lit ?_
 refine seq_do hA rfl rfl rfl (does_move rfl) ?_
 intro a hA
 refine seq_do hA rfl rfl rfl (does_move rfl) ?_
 intro a hA
 refine seq_do (v := .int .i64 2) hA rfl rfl rfl (does_len Tryd.underlying23 rfl) ?_
 intro a hA
 refine seq_do (v := .int .i64 1) hA rfl rfl rfl (does_bin rfl rfl (fun w => by kernel_rfl)) ?_
 intro a hA
 refine seq_do (v := .slice so 1 2) hA rfl rfl rfl (does_upto (sz := 1) (hi := 1) Tryd.underlying23 (by kernel_rfl) rfl rfl rfl (by decide)) ?_
 intro a hA
 refine seq_do hA rfl rfl rfl (does_assign rfl) ?_
 intro a hA
 refine seq_end ?_
 refine hK3 _ _ ?_
 refine rounds_k ?_
 intro K6 hK6
 refine wp_seq_k (fun K7 hK7 => ?_)
 refine wp_seq_k (fun K8 hK8 => ?_)
 refine wp_region_lit ?_
 refine seq_do hA rfl rfl rfl (does_move rfl) ?_
 intro a hA
 refine seq_do (v := .int .i64 1) hA rfl rfl rfl (does_len Tryd.underlying23 rfl) ?_
 intro a hA
 refine seq_do (v := .bool true) hA rfl rfl rfl (does_bin rfl rfl (fun w => by kernel_rfl)) ?_
 intro a hA
 refine seq_do hA rfl rfl rfl (does_move rfl) ?_
 intro a hA
 refine seq_do hA rfl rfl rfl (does_move rfl) ?_
 intro a hA
 refine seq_do hA rfl rfl rfl (does_move rfl) ?_
 intro a hA
 refine seq_do (v := .int .i64 1) hA rfl rfl rfl (does_len Tryd.underlying23 rfl) ?_
 intro a hA
 refine seq_do (v := .int .i64 0) hA rfl rfl rfl (does_bin rfl rfl (fun w => by kernel_rfl)) ?_
 intro a hA
 refine seq_do (v := .pointer (some ⟨bq, oq + 0, none⟩)) hA rfl rfl rfl (does_indexRow (k := 0) Tryd.underlying23 (by kernel_rfl) rfl rfl rfl hq1 (by decide)) ?_
 intro a hA
 refine seq_do (v := .int .u32 258) hA rfl rfl rfl (m_loadR hM hq2 hq3 ByW_is1_52 rfl) ?_
 intro a hA
 refine seq_do (v := .bool false) hA rfl rfl rfl (does_bin rfl rfl (fun w => by kernel_rfl)) ?_
 intro a hA
 refine seq_do (v := .bool false) hA rfl rfl rfl (does_pick rfl rfl rfl rfl) ?_
 intro a hA
 refine seq_end ?_
 refine hK8 _ _ ?_
 refine wp_cond_false (hA.ev rfl) ?_
 refine wp_exit ?_
 refine hK2 _ _ ?_
 refine wp_seq_k (fun K9 hK9 => ?_)
 refine wp_region_lit ?_
 refine seq_do hA rfl rfl rfl (does_move rfl) ?_
 intro a hA
 refine seq_do hA rfl rfl rfl (does_assign rfl) ?_
 intro a hA
 refine seq_end ?_
 refine hK9 _ _ ?_
 refine wp_ret ?_
 refine hret _ _ ?_
 refine ends (v := .slice so 1 2) hA rfl (.cons (res_tmp rfl) .nil) rfl ?_
 exact ⟨rfl, hM.bel⟩
theorem wof_fix258 {w : World} : Calls Tryd.prog 70 #[.int .u64 258] w fun e w' => ∃ g, e = .returned (.slice (some ⟨g, 0, none⟩) 1 2) ∧ Mg w w' [.row 52 1 (.slice (some ⟨g, 0, none⟩) 1 2) 1 [.int .u32 258]] := by
 have hM : Mg w w ([]) := Mg.start w
 refine walk_of (l := [(0, .int .u64 258)]) Tryd.func70 rfl Tryd.ntmps70 rfl rfl ?_
 intro Q hret hnorm hP a hA
 refine wp_seq_k (fun K1 hK1 => ?_)
 refine wp_region_lit ?_
 refine seq_do hA rfl rfl rfl (does_assign rfl) ?_
 intro a hA
 refine seq_end ?_
 refine hK1 _ _ ?_
 refine wp_seq_k (fun K2 hK2 => ?_)
 refine wp_region_lit ?_
 refine seq_do hA rfl rfl rfl (does_move rfl) ?_
 intro a hA
 refine seq_do (v := .int .u32 258) hA rfl rfl rfl (does_convert rfl (fun w => by kernel_rfl)) ?_
 intro a hA
 refine seq_do hA rfl rfl rfl (does_move rfl) ?_
 intro a hA
 refine seq_do (v := .int .u64 0) hA rfl rfl rfl (does_bin rfl rfl (fun w => by kernel_rfl)) ?_
 intro a hA
 refine seq_do (v := .int .u32 0) hA rfl rfl rfl (does_convert rfl (fun w => by kernel_rfl)) ?_
 intro a hA
 refine s_litE (e := 52) (sz := 1) (m := 2) (vs := [.int .u32 258, .int .u32 0]) hA hM rfl rfl rfl (does_buildSlice rfl (by kernel_rfl)) rfl rfl (.inl (by decide)) ?_
 intro g3 w4 hM a hA
 have hr9 : _ := hM.has 0 rfl
 have hc9 : ∀ j u, ([.int .u32 258, .int .u32 0] : List Value)[j]? = some u → World.cell? _ ⟨g3, j, none⟩ = some u := row_cellsZ hM 0 rfl
 refine seq_call hA rfl rfl rfl (enters_func rfl rfl (fun w => by kernel_rfl)) (trim_fix258 (so := some ⟨g3, 0, none⟩) rfl (row_ltZ hM 0 rfl) (hc9 0 _ rfl) (hc9 1 _ rfl)) ?_
 rintro _ w6 ⟨rfl, hb5⟩
 replace hM := hM.call hb5
 refine ⟨_, rfl, ?_⟩
 intro a hA
 refine seq_do hA rfl rfl rfl (does_assign rfl) ?_
 intro a hA
 refine seq_end ?_
 refine hK2 _ _ ?_
 refine wp_ret ?_
 refine hret _ _ ?_
 refine ends (v := .slice (some ⟨g3, 0, none⟩) 1 2) hA rfl (.cons (res_tmp rfl) .nil) rfl ?_
 have h9 := hM.rowCut 0 rfl (m := 1) (by decide)
 exact ⟨g3, rfl, h9⟩
theorem nof_fix258 {w : World} : Calls Tryd.prog 40 #[.int .u64 258] w fun e w' => ∃ g, e = .returned (.slice (some ⟨g, 0, none⟩) 1 2) ∧ Mg w w' [.row 52 1 (.slice (some ⟨g, 0, none⟩) 1 2) 1 [.int .u32 258]] := by
 have hM : Mg w w ([]) := Mg.start w
 refine walk_of (l := [(0, .int .u64 258)]) Tryd.func40 rfl Tryd.ntmps40 rfl rfl ?_
 intro Q hret hnorm hP a hA
 refine wp_seq_k (fun K1 hK1 => ?_)
 refine wp_region_lit ?_
 refine seq_do hA rfl rfl rfl (does_assign rfl) ?_
 intro a hA
 refine seq_end ?_
 refine hK1 _ _ ?_
 refine wp_seq_k (fun K2 hK2 => ?_)
 refine wp_region_lit ?_
 refine seq_do hA rfl rfl rfl (does_move rfl) ?_
 intro a hA
 refine seq_call hA rfl rfl rfl (enters_func rfl rfl (fun w => by kernel_rfl)) (wof_fix258) ?_
 rintro _ w5 ⟨g3, rfl, hM4⟩
 replace hM : Mg w w5 (.row 52 1 (.slice (some ⟨g3, 0, none⟩) 1 2) 1 ([.int .u32 258]) :: []) := (hM.both hM4 (noBld_quiet quietL_nil) (noBld_cons (by simp) (noBld_quiet quietL_nil)))
 refine ⟨_, rfl, ?_⟩
 intro a hA
 refine seq_do hA rfl rfl rfl (does_assign rfl) ?_
 intro a hA
 refine seq_end ?_
 refine hK2 _ _ ?_
 refine wp_ret ?_
 refine hret _ _ ?_
 refine ends (v := .slice (some ⟨g3, 0, none⟩) 1 2) hA rfl (.cons (res_tmp rfl) .nil) rfl ?_
 exact ⟨_, rfl, hM⟩
theorem int_fix0 {w : World} : Calls Tryd.prog 15 #[.int .i64 0] w fun e w' => ∃ g1 g2 g3, e = .returned (.agg #[.bool false, .slice (some ⟨g1, 0, none⟩) 0 2, .slice (some ⟨g2, 0, none⟩) 1 2, .bool false, .slice none 0 0, .slice (some ⟨g3, 0, none⟩) 1 2]) ∧ Mg w w' [.row 52 1 (.slice (some ⟨g1, 0, none⟩) 0 2) 0 [], .row 52 1 (.slice (some ⟨g2, 0, none⟩) 1 2) 1 [.int .u32 1], .row 52 1 (.slice (some ⟨g3, 0, none⟩) 1 2) 1 [.int .u32 1]] := by
 have hM : Mg w w ([]) := Mg.start w
 refine walk_of (l := [(0, .int .i64 0)]) Tryd.func15 rfl Tryd.ntmps15 rfl rfl ?_
 intro Q hret hnorm hP a hA
 refine wp_seq_k (fun K1 hK1 => ?_)
 refine wp_region_lit ?_
 refine s_new (vs := [.bool false, .slice none 0 0, .slice none 0 0, .bool false, .slice none 0 0, .slice none 0 0]) (t := 27) hA hM rfl rfl rfl (fun g => .pointer (some ⟨g, 0, none⟩)) (does_alloc (z := .agg #[.bool false, .slice none 0 0, .slice none 0 0, .bool false, .slice none 0 0, .slice none 0 0]) (by kernel_rfl) rfl) (by decide) ?_
 intro g2 w3 hM a hA
 refine seq_end ?_
 refine hK1 _ _ ?_
 refine wp_seq_k (fun K4 hK4 => ?_)
 refine wp_region_lit ?_
 refine seq_do hA rfl rfl rfl (does_move rfl) ?_
 intro a hA
 refine seq_do (v := .int .u64 0) hA rfl rfl rfl (does_convert rfl (fun w => by kernel_rfl)) ?_
 intro a hA
 refine seq_do hA rfl rfl rfl (does_assign rfl) ?_
 intro a hA
 refine seq_end ?_
 refine hK4 _ _ ?_
 refine wp_seq_k (fun K5 hK5 => ?_)
 refine wp_seq_k (fun K6 hK6 => ?_)
 refine wp_region_lit ?_
 refine seq_do hA rfl rfl rfl (does_move rfl) ?_
 intro a hA
 refine seq_do (v := .bool false) hA rfl rfl rfl (does_bin rfl rfl (fun w => by kernel_rfl)) ?_
 intro a hA
 refine seq_end ?_
 refine hK6 _ _ ?_
 refine wp_cond_false (hA.ev rfl) ?_
 refine wp_skip ?_
 refine hK5 _ _ ?_
 refine wp_seq_k (fun K7 hK7 => ?_)
 refine wp_region_lit ?_
 refine seq_do hA rfl rfl rfl (does_move rfl) ?_
 intro a hA
 refine seq_do (v := .bool false) hA rfl rfl rfl (does_bin rfl rfl (fun w => by kernel_rfl)) ?_
 intro a hA
 refine seq_do hA rfl rfl rfl (does_move rfl) ?_
 intro a hA
 refine seq_call hA rfl rfl rfl (enters_func rfl rfl (fun w => by kernel_rfl)) (nof_fix0) ?_
 rintro _ w10 ⟨g8, rfl, hM9⟩
 replace hM : Mg w w10 (.row 52 1 (.slice (some ⟨g8, 0, none⟩) 0 2) 0 ([]) :: .obj g2 (.cells #[.bool false, .slice none 0 0, .slice none 0 0, .bool false, .slice none 0 0, .slice none 0 0] 27) :: []) := (hM.both hM9 (noBld_cons (by simp) (noBld_quiet quietL_nil)) (noBld_cons (by simp) (noBld_quiet quietL_nil)))
 refine ⟨_, rfl, ?_⟩
 intro a hA
 refine seq_call hA rfl rfl rfl (enters_func rfl rfl (fun w => by kernel_rfl)) (nof_fix1) ?_
 rintro _ w13 ⟨g11, rfl, hM12⟩
 replace hM : Mg w w13 (.row 52 1 (.slice (some ⟨g11, 0, none⟩) 1 2) 1 ([.int .u32 1]) :: .row 52 1 (.slice (some ⟨g8, 0, none⟩) 0 2) 0 ([]) :: .obj g2 (.cells #[.bool false, .slice none 0 0, .slice none 0 0, .bool false, .slice none 0 0, .slice none 0 0] 27) :: []) := (hM.both hM12 (noBld_cons (by simp) (noBld_cons (by simp) (noBld_quiet quietL_nil))) (noBld_cons (by simp) (noBld_quiet quietL_nil)))
 refine ⟨_, rfl, ?_⟩
 intro a hA
 refine seq_do (v := .agg #[.bool false, .slice (some ⟨g8, 0, none⟩) 0 2, .slice (some ⟨g11, 0, none⟩) 1 2]) hA rfl rfl rfl (does_build rfl (fun w => by kernel_rfl)) ?_
 intro a hA
 refine seq_call hA rfl rfl rfl (enters_func rfl rfl (fun w => by kernel_rfl)) (nof_fix1) ?_
 rintro _ w16 ⟨g14, rfl, hM15⟩
 replace hM : Mg w w16 (.row 52 1 (.slice (some ⟨g14, 0, none⟩) 1 2) 1 ([.int .u32 1]) :: .row 52 1 (.slice (some ⟨g11, 0, none⟩) 1 2) 1 ([.int .u32 1]) :: .row 52 1 (.slice (some ⟨g8, 0, none⟩) 0 2) 0 ([]) :: .obj g2 (.cells #[.bool false, .slice none 0 0, .slice none 0 0, .bool false, .slice none 0 0, .slice none 0 0] 27) :: []) := (hM.both hM15 (noBld_cons (by simp) (noBld_cons (by simp) (noBld_cons (by simp) (noBld_quiet quietL_nil)))) (noBld_cons (by simp) (noBld_quiet quietL_nil)))
 refine ⟨_, rfl, ?_⟩
 intro a hA
 refine seq_do (v := .agg #[.bool false, .slice none 0 0, .slice (some ⟨g14, 0, none⟩) 1 2]) hA rfl rfl rfl (does_build rfl (fun w => by kernel_rfl)) ?_
 intro a hA
 refine seq_do (v := .agg #[.bool false, .slice (some ⟨g8, 0, none⟩) 0 2, .slice (some ⟨g11, 0, none⟩) 1 2, .bool false, .slice none 0 0, .slice (some ⟨g14, 0, none⟩) 1 2]) hA rfl rfl rfl (does_build rfl (fun w => by kernel_rfl)) ?_
 intro a hA
 refine s_store (us := [.bool false, .slice (some ⟨g8, 0, none⟩) 0 2, .slice (some ⟨g11, 0, none⟩) 1 2, .bool false, .slice none 0 0, .slice (some ⟨g14, 0, none⟩) 1 2]) (L' := (.row 52 1 (.slice (some ⟨g14, 0, none⟩) 1 2) 1 ([.int .u32 1]) :: .row 52 1 (.slice (some ⟨g11, 0, none⟩) 1 2) 1 ([.int .u32 1]) :: .row 52 1 (.slice (some ⟨g8, 0, none⟩) 0 2) 0 ([]) :: .obj g2 (.cells #[.bool false, .slice (some ⟨g8, 0, none⟩) 0 2, .slice (some ⟨g11, 0, none⟩) 1 2, .bool false, .slice none 0 0, .slice (some ⟨g14, 0, none⟩) 1 2] 27) :: [])) hA hM rfl rfl (m_store rfl rfl rfl (by kernel_rfl) hM 3 rfl rfl rfl) 3 rfl rfl rfl ?_
 intro w17 hM
 refine seq_end ?_
 refine hK7 _ _ ?_
 refine wp_ret ?_
 refine hret _ _ ?_
 refine ends (v := .agg #[.bool false, .slice (some ⟨g8, 0, none⟩) 0 2, .slice (some ⟨g11, 0, none⟩) 1 2, .bool false, .slice none 0 0, .slice (some ⟨g14, 0, none⟩) 1 2]) hA rfl (.cons (res_cellS hM ByW_isS_27 rfl 3 rfl (cs := [.bool false, .slice (some ⟨g8, 0, none⟩) 0 2, .slice (some ⟨g11, 0, none⟩) 1 2, .bool false, .slice none 0 0, .slice (some ⟨g14, 0, none⟩) 1 2]) rfl rfl) .nil) rfl ?_
 replace hM : Mg w w17 (.row 52 1 (.slice (some ⟨g14, 0, none⟩) 1 2) 1 ([.int .u32 1]) :: .row 52 1 (.slice (some ⟨g11, 0, none⟩) 1 2) 1 ([.int .u32 1]) :: .row 52 1 (.slice (some ⟨g8, 0, none⟩) 0 2) 0 ([]) :: []) := by
   have h9 := hM.sub (.cons_cons _ (.cons_cons _ (.cons_cons _ (.cons _ (.refl _)))))
   exact h9
 replace hM : Mg w w17 (.row 52 1 (.slice (some ⟨g11, 0, none⟩) 1 2) 1 ([.int .u32 1]) :: .row 52 1 (.slice (some ⟨g14, 0, none⟩) 1 2) 1 ([.int .u32 1]) :: .row 52 1 (.slice (some ⟨g8, 0, none⟩) 0 2) 0 ([]) :: []) := hM.perm (List.perm_middle (l₁ := [_]))
 replace hM : Mg w w17 (.row 52 1 (.slice (some ⟨g8, 0, none⟩) 0 2) 0 ([]) :: .row 52 1 (.slice (some ⟨g11, 0, none⟩) 1 2) 1 ([.int .u32 1]) :: .row 52 1 (.slice (some ⟨g14, 0, none⟩) 1 2) 1 ([.int .u32 1]) :: []) := hM.perm (List.perm_middle (l₁ := [_, _]))
 exact ⟨g8, g11, g14, rfl, hM⟩
theorem int_fix258 {w : World} : Calls Tryd.prog 15 #[.int .i64 258] w fun e w' => ∃ g1 g2 g3, e = .returned (.agg #[.bool false, .slice (some ⟨g1, 0, none⟩) 1 2, .slice (some ⟨g2, 0, none⟩) 1 2, .bool false, .slice none 0 0, .slice (some ⟨g3, 0, none⟩) 1 2]) ∧ Mg w w' [.row 52 1 (.slice (some ⟨g1, 0, none⟩) 1 2) 1 [.int .u32 258], .row 52 1 (.slice (some ⟨g2, 0, none⟩) 1 2) 1 [.int .u32 1], .row 52 1 (.slice (some ⟨g3, 0, none⟩) 1 2) 1 [.int .u32 1]] := by
 have hM : Mg w w ([]) := Mg.start w
 refine walk_of (l := [(0, .int .i64 258)]) Tryd.func15 rfl Tryd.ntmps15 rfl rfl ?_
 intro Q hret hnorm hP a hA
 refine wp_seq_k (fun K1 hK1 => ?_)
 refine wp_region_lit ?_
 refine s_new (vs := [.bool false, .slice none 0 0, .slice none 0 0, .bool false, .slice none 0 0, .slice none 0 0]) (t := 27) hA hM rfl rfl rfl (fun g => .pointer (some ⟨g, 0, none⟩)) (does_alloc (z := .agg #[.bool false, .slice none 0 0, .slice none 0 0, .bool false, .slice none 0 0, .slice none 0 0]) (by kernel_rfl) rfl) (by decide) ?_
 intro g2 w3 hM a hA
 refine seq_end ?_
 refine hK1 _ _ ?_
 refine wp_seq_k (fun K4 hK4 => ?_)
 refine wp_region_lit ?_
 refine seq_do hA rfl rfl rfl (does_move rfl) ?_
 intro a hA
 refine seq_do (v := .int .u64 258) hA rfl rfl rfl (does_convert rfl (fun w => by kernel_rfl)) ?_
 intro a hA
 refine seq_do hA rfl rfl rfl (does_assign rfl) ?_
 intro a hA
 refine seq_end ?_
 refine hK4 _ _ ?_
 refine wp_seq_k (fun K5 hK5 => ?_)
 refine wp_seq_k (fun K6 hK6 => ?_)
 refine wp_region_lit ?_
 refine seq_do hA rfl rfl rfl (does_move rfl) ?_
 intro a hA
 refine seq_do (v := .bool false) hA rfl rfl rfl (does_bin rfl rfl (fun w => by kernel_rfl)) ?_
 intro a hA
 refine seq_end ?_
 refine hK6 _ _ ?_
 refine wp_cond_false (hA.ev rfl) ?_
 refine wp_skip ?_
 refine hK5 _ _ ?_
 refine wp_seq_k (fun K7 hK7 => ?_)
 refine wp_region_lit ?_
 refine seq_do hA rfl rfl rfl (does_move rfl) ?_
 intro a hA
 refine seq_do (v := .bool false) hA rfl rfl rfl (does_bin rfl rfl (fun w => by kernel_rfl)) ?_
 intro a hA
 refine seq_do hA rfl rfl rfl (does_move rfl) ?_
 intro a hA
 refine seq_call hA rfl rfl rfl (enters_func rfl rfl (fun w => by kernel_rfl)) (nof_fix258) ?_
 rintro _ w10 ⟨g8, rfl, hM9⟩
 replace hM : Mg w w10 (.row 52 1 (.slice (some ⟨g8, 0, none⟩) 1 2) 1 ([.int .u32 258]) :: .obj g2 (.cells #[.bool false, .slice none 0 0, .slice none 0 0, .bool false, .slice none 0 0, .slice none 0 0] 27) :: []) := (hM.both hM9 (noBld_cons (by simp) (noBld_quiet quietL_nil)) (noBld_cons (by simp) (noBld_quiet quietL_nil)))
 refine ⟨_, rfl, ?_⟩
 intro a hA
 refine seq_call hA rfl rfl rfl (enters_func rfl rfl (fun w => by kernel_rfl)) (nof_fix1) ?_
 rintro _ w13 ⟨g11, rfl, hM12⟩
 replace hM : Mg w w13 (.row 52 1 (.slice (some ⟨g11, 0, none⟩) 1 2) 1 ([.int .u32 1]) :: .row 52 1 (.slice (some ⟨g8, 0, none⟩) 1 2) 1 ([.int .u32 258]) :: .obj g2 (.cells #[.bool false, .slice none 0 0, .slice none 0 0, .bool false, .slice none 0 0, .slice none 0 0] 27) :: []) := (hM.both hM12 (noBld_cons (by simp) (noBld_cons (by simp) (noBld_quiet quietL_nil))) (noBld_cons (by simp) (noBld_quiet quietL_nil)))
 refine ⟨_, rfl, ?_⟩
 intro a hA
 refine seq_do (v := .agg #[.bool false, .slice (some ⟨g8, 0, none⟩) 1 2, .slice (some ⟨g11, 0, none⟩) 1 2]) hA rfl rfl rfl (does_build rfl (fun w => by kernel_rfl)) ?_
 intro a hA
 refine seq_call hA rfl rfl rfl (enters_func rfl rfl (fun w => by kernel_rfl)) (nof_fix1) ?_
 rintro _ w16 ⟨g14, rfl, hM15⟩
 replace hM : Mg w w16 (.row 52 1 (.slice (some ⟨g14, 0, none⟩) 1 2) 1 ([.int .u32 1]) :: .row 52 1 (.slice (some ⟨g11, 0, none⟩) 1 2) 1 ([.int .u32 1]) :: .row 52 1 (.slice (some ⟨g8, 0, none⟩) 1 2) 1 ([.int .u32 258]) :: .obj g2 (.cells #[.bool false, .slice none 0 0, .slice none 0 0, .bool false, .slice none 0 0, .slice none 0 0] 27) :: []) := (hM.both hM15 (noBld_cons (by simp) (noBld_cons (by simp) (noBld_cons (by simp) (noBld_quiet quietL_nil)))) (noBld_cons (by simp) (noBld_quiet quietL_nil)))
 refine ⟨_, rfl, ?_⟩
 intro a hA
 refine seq_do (v := .agg #[.bool false, .slice none 0 0, .slice (some ⟨g14, 0, none⟩) 1 2]) hA rfl rfl rfl (does_build rfl (fun w => by kernel_rfl)) ?_
 intro a hA
 refine seq_do (v := .agg #[.bool false, .slice (some ⟨g8, 0, none⟩) 1 2, .slice (some ⟨g11, 0, none⟩) 1 2, .bool false, .slice none 0 0, .slice (some ⟨g14, 0, none⟩) 1 2]) hA rfl rfl rfl (does_build rfl (fun w => by kernel_rfl)) ?_
 intro a hA
 refine s_store (us := [.bool false, .slice (some ⟨g8, 0, none⟩) 1 2, .slice (some ⟨g11, 0, none⟩) 1 2, .bool false, .slice none 0 0, .slice (some ⟨g14, 0, none⟩) 1 2]) (L' := (.row 52 1 (.slice (some ⟨g14, 0, none⟩) 1 2) 1 ([.int .u32 1]) :: .row 52 1 (.slice (some ⟨g11, 0, none⟩) 1 2) 1 ([.int .u32 1]) :: .row 52 1 (.slice (some ⟨g8, 0, none⟩) 1 2) 1 ([.int .u32 258]) :: .obj g2 (.cells #[.bool false, .slice (some ⟨g8, 0, none⟩) 1 2, .slice (some ⟨g11, 0, none⟩) 1 2, .bool false, .slice none 0 0, .slice (some ⟨g14, 0, none⟩) 1 2] 27) :: [])) hA hM rfl rfl (m_store rfl rfl rfl (by kernel_rfl) hM 3 rfl rfl rfl) 3 rfl rfl rfl ?_
 intro w17 hM
 refine seq_end ?_
 refine hK7 _ _ ?_
 refine wp_ret ?_
 refine hret _ _ ?_
 refine ends (v := .agg #[.bool false, .slice (some ⟨g8, 0, none⟩) 1 2, .slice (some ⟨g11, 0, none⟩) 1 2, .bool false, .slice none 0 0, .slice (some ⟨g14, 0, none⟩) 1 2]) hA rfl (.cons (res_cellS hM ByW_isS_27 rfl 3 rfl (cs := [.bool false, .slice (some ⟨g8, 0, none⟩) 1 2, .slice (some ⟨g11, 0, none⟩) 1 2, .bool false, .slice none 0 0, .slice (some ⟨g14, 0, none⟩) 1 2]) rfl rfl) .nil) rfl ?_
 replace hM : Mg w w17 (.row 52 1 (.slice (some ⟨g14, 0, none⟩) 1 2) 1 ([.int .u32 1]) :: .row 52 1 (.slice (some ⟨g11, 0, none⟩) 1 2) 1 ([.int .u32 1]) :: .row 52 1 (.slice (some ⟨g8, 0, none⟩) 1 2) 1 ([.int .u32 258]) :: []) := by
   have h9 := hM.sub (.cons_cons _ (.cons_cons _ (.cons_cons _ (.cons _ (.refl _)))))
   exact h9
 replace hM : Mg w w17 (.row 52 1 (.slice (some ⟨g11, 0, none⟩) 1 2) 1 ([.int .u32 1]) :: .row 52 1 (.slice (some ⟨g14, 0, none⟩) 1 2) 1 ([.int .u32 1]) :: .row 52 1 (.slice (some ⟨g8, 0, none⟩) 1 2) 1 ([.int .u32 258]) :: []) := hM.perm (List.perm_middle (l₁ := [_]))
 replace hM : Mg w w17 (.row 52 1 (.slice (some ⟨g8, 0, none⟩) 1 2) 1 ([.int .u32 258]) :: .row 52 1 (.slice (some ⟨g11, 0, none⟩) 1 2) 1 ([.int .u32 1]) :: .row 52 1 (.slice (some ⟨g14, 0, none⟩) 1 2) 1 ([.int .u32 1]) :: []) := hM.perm (List.perm_middle (l₁ := [_, _]))
 exact ⟨g8, g11, g14, rfl, hM⟩
theorem natural_fix {w : World} {so : Option Addr} {ca : Nat} (hb : Rb w so [2, 1]) (hca : 2 ≤ ca) : Calls Tryd.prog 49 #[.slice so 2 ca] w fun e w' => ∃ g1 g2 g3, e = .returned (.agg #[.bool false, .slice (some ⟨g1, 0, none⟩) 1 1, .slice (some ⟨g2, 0, none⟩) 1 2, .bool false, .slice none 0 0, .slice (some ⟨g3, 0, none⟩) 1 2]) ∧ Mg w w' [.row 52 1 (.slice (some ⟨g1, 0, none⟩) 1 1) 1 [.int .u32 258], .row 52 1 (.slice (some ⟨g2, 0, none⟩) 1 2) 1 [.int .u32 1], .row 52 1 (.slice (some ⟨g3, 0, none⟩) 1 2) 1 [.int .u32 1]] := by
 have hM : Mg w w ([]) := Mg.start w
 refine walk_of (l := [(0, .slice so 2 ca)]) Tryd.func49 rfl Tryd.ntmps49 rfl rfl ?_
 intro Q hret hnorm hP a hA
 refine wp_seq_k (fun K1 hK1 => ?_)
 refine wp_region_lit ?_
 refine s_new (vs := [.bool false, .slice none 0 0, .slice none 0 0, .bool false, .slice none 0 0, .slice none 0 0]) (t := 27) hA hM rfl rfl rfl (fun g => .pointer (some ⟨g, 0, none⟩)) (does_alloc (z := .agg #[.bool false, .slice none 0 0, .slice none 0 0, .bool false, .slice none 0 0, .slice none 0 0]) (by kernel_rfl) rfl) (by decide) ?_
 intro g2 w3 hM a hA
 refine seq_end ?_
 refine hK1 _ _ ?_
 refine wp_seq_k (fun K4 hK4 => ?_)
 refine wp_region_lit ?_
 refine seq_do hA rfl rfl rfl (does_move rfl) ?_
 intro a hA
 refine seq_call hA rfl rfl rfl (enters_func rfl rfl (fun w => by kernel_rfl)) ((show Calls Tryd.prog 78 _ _ (fun e w' => e = .returned (.slice so 2 ca) ∧ Below _ _ w') from trimRight_any (l := [2, 1]) (hb.below hM.bel) (by decide) hca)) ?_
 rintro _ w6 ⟨rfl, hb5⟩
 replace hM := hM.call hb5
 refine ⟨_, rfl, ?_⟩
 intro a hA
 refine seq_do hA rfl rfl rfl (does_assign rfl) ?_
 intro a hA
 refine seq_end ?_
 refine hK4 _ _ ?_
 refine wp_seq_k (fun K7 hK7 => ?_)
 refine wp_region_lit ?_
 refine seq_do hA rfl rfl rfl (does_move rfl) ?_
 intro a hA
 refine seq_do (v := .int .i64 2) hA rfl rfl rfl (does_len Tryd.underlying22 rfl) ?_
 intro a hA
 refine seq_do (v := .int .i64 6) hA rfl rfl rfl (does_bin rfl rfl (fun w => by kernel_rfl)) ?_
 intro a hA
 refine seq_do (v := .int .i64 5) hA rfl rfl rfl (does_bin rfl rfl (fun w => by kernel_rfl)) ?_
 intro a hA
 refine seq_do (v := .int .i64 1) hA rfl rfl rfl (does_bin rfl rfl (fun w => by kernel_rfl)) ?_
 intro a hA
 refine s_makeE (z := .int .u32 0) (sz := 1) (by_ := 4) (m := 1) hA hM Tryd.underlying23 (by kernel_rfl) rfl rfl rfl rfl rfl rfl (by decide) (by decide) (.inl (by decide)) ?_
 intro gw w8 hM a hA
 rw [made_one] at hM
 refine seq_do hA rfl rfl rfl (does_assign rfl) ?_
 intro a hA
 refine seq_end ?_
 refine hK7 _ _ ?_
 refine wp_seq_k (fun K9 hK9 => ?_)
 refine wp_seq_k (fun K10 hK10 => ?_)
 refine wp_region_lit ?_
 refine seq_do hA rfl rfl rfl (does_move rfl) ?_
 intro a hA
 refine seq_do (v := .int .i64 2) hA rfl rfl rfl (does_len Tryd.underlying22 rfl) ?_
 intro a hA
 refine seq_do hA rfl rfl rfl (does_move rfl) ?_
 intro a hA
 refine seq_end ?_
 refine hK10 _ _ ?_
 refine wp_block ?_
 refine wp_loop_rounds 3 ?_
 refine rounds_k ?_
 intro K11 hK11
 refine wp_seq_k (fun K12 hK12 => ?_)
 refine wp_region_lit ?_
 refine seq_do (v := .bool true) hA rfl rfl rfl (does_bin rfl rfl (fun w => by kernel_rfl)) ?_
 intro a hA
 refine seq_end ?_
 refine hK12 _ _ ?_
 refine wp_seq_k (fun K13 hK13 => ?_)
 refine wp_cond_true (hA.ev rfl) ?_
 refine wp_skip ?_
 refine hK13 _ _ ?_
 refine wp_seq_k (fun K14 hK14 => ?_)
 refine wp_block ?_
 refine wp_seq_k (fun K15 hK15 => ?_)
 refine wp_region_lit ?_
 refine seq_do hA rfl rfl rfl (does_move rfl) ?_
 intro a hA
 obtain ⟨bx, ox, hx1, hx2, hx3⟩ := rb_open (i := 0) hb (by decide)
 refine seq_do (v := .pointer (some ⟨bx, ox + 0, none⟩)) hA rfl rfl rfl (does_indexRow (k := 0) Tryd.underlying22 (by kernel_rfl) rfl rfl rfl hx1 (by decide)) ?_
 intro a hA
 refine seq_do (v := .int .u8 2) hA rfl rfl rfl (m_loadR hM hx2 (hx3 0 (by decide)) ByW_is1_5 rfl) ?_
 intro a hA
 refine seq_do hA rfl rfl rfl (does_assign rfl) ?_
 intro a hA
 refine seq_do hA rfl rfl rfl (does_assign rfl) ?_
 intro a hA
 refine seq_end ?_
 refine hK15 _ _ ?_
 refine wp_draw (S := fun w1 => Mg w w1 ([])) (by kernel_rfl) ?_
 replace hM := hM.drew
 refine any_tk hA 0 rfl rfl rfl rfl hP (hM.sub (.cons _ (.cons _ (List.nil_sublist _)))) (fun w1 hM => does_move rfl) ?_
 intro a hA
 refine any_tk hA 1 rfl rfl rfl rfl hP (hM.sub (.cons _ (.cons _ (List.nil_sublist _)))) (fun w1 hM => does_move rfl) ?_
 intro a hA
 refine any_tk (v := .int .i64 0) hA 2 rfl rfl rfl rfl hP (hM.sub (.cons _ (.cons _ (List.nil_sublist _)))) (fun w1 hM => does_bin rfl rfl (fun w => by kernel_rfl)) ?_
 intro a hA
 refine any_tk (v := .pointer (some ⟨gw, 0 * 1, none⟩)) hA 3 rfl rfl rfl rfl hP (hM.sub (.cons _ (.cons _ (List.nil_sublist _)))) (fun w1 hM => does_indexE (k := 0) Tryd.underlying23 (by kernel_rfl) rfl rfl rfl (by decide)) ?_
 intro a hA
 refine any_tk hA 5 rfl rfl rfl rfl hP (hM.sub (.cons _ (.cons _ (List.nil_sublist _)))) (fun w1 hM => does_move rfl) ?_
 intro a hA
 refine any_tk (v := .int .u32 2) hA 6 rfl rfl rfl rfl hP (hM.sub (.cons _ (.cons _ (List.nil_sublist _)))) (fun w1 hM => does_convert rfl (fun w => by kernel_rfl)) ?_
 intro a hA
 refine any_tk hA 7 rfl rfl rfl rfl hP (hM.sub (.cons _ (.cons _ (List.nil_sublist _)))) (fun w1 hM => does_move rfl) ?_
 intro a hA
 refine any_tk (v := .int .i64 0) hA 8 rfl rfl rfl rfl hP (hM.sub (.cons _ (.cons _ (List.nil_sublist _)))) (fun w1 hM => does_bin rfl rfl (fun w => by kernel_rfl)) ?_
 intro a hA
 refine any_tk (v := .int .i64 0) hA 9 rfl rfl rfl rfl hP (hM.sub (.cons _ (.cons _ (List.nil_sublist _)))) (fun w1 hM => does_bin rfl rfl (fun w => by kernel_rfl)) ?_
 intro a hA
 refine any_tk (v := .int .u32 2) hA 10 rfl rfl rfl rfl hP (hM.sub (.cons _ (.cons _ (List.nil_sublist _)))) (fun w1 hM => does_bin rfl rfl (fun w => by kernel_rfl)) ?_
 intro a hA
 refine any_one (by kernel_rfl) (op_do (v := .int .u32 0) hA 4 rfl rfl rfl rfl (m_loadX hM 0 rfl (show ([.int .u32 0] : List Value)[0 * 1]? = some (.int .u32 0) from rfl) ByW_is1_52 rfl) (hM.sub (.cons _ (.cons _ (List.nil_sublist _)))) ?_)
 intro a hA
 refine any_tk (v := .int .u32 2) hA 11 rfl rfl rfl rfl hP (hM.sub (.cons _ (.cons _ (List.nil_sublist _)))) (fun w1 hM => does_bin rfl rfl (fun w => by kernel_rfl)) ?_
 intro a hA
 refine any_tk (v := .pointer (some ⟨gw, 0 * 1, none⟩)) hA 12 rfl rfl rfl rfl hP (hM.sub (.cons _ (.cons _ (List.nil_sublist _)))) (fun w1 hM => does_indexE (k := 0) Tryd.underlying23 (by kernel_rfl) rfl rfl rfl (by decide)) ?_
 intro a hA
 refine any_one (by kernel_rfl) (g_storeE (cs := [.int .u32 2]) (L' := (.row 52 1 (.slice (some ⟨gw, 0, none⟩) 1 1) 1 ([.int .u32 2]) :: .obj g2 (.cells #[.bool false, .slice none 0 0, .slice none 0 0, .bool false, .slice none 0 0, .slice none 0 0] 27) :: [])) (us := []) hA hM 13 rfl rfl rfl (m_storeE rfl rfl rfl (by kernel_rfl) hM 0 rfl (by decide) rfl) 0 rfl rfl ?_)
 intro w16 hM
 refine ⟨(hM.sub (.cons _ (.cons _ (List.nil_sublist _)))), ?_⟩
 refine any_end (by kernel_rfl) ?_
 refine hK14 _ _ ?_
 refine wp_region_lit ?_
 refine seq_do (v := .int .i64 1) hA rfl rfl rfl (does_bin rfl rfl (fun w => by kernel_rfl)) ?_
 intro a hA
 refine seq_do hA rfl rfl rfl (does_move rfl) ?_
 intro a hA
 refine seq_end ?_
 refine hK11 _ _ ?_
 refine rounds_k ?_
 intro K17 hK17
 refine wp_seq_k (fun K18 hK18 => ?_)
 refine wp_region_lit ?_
 refine seq_do (v := .bool true) hA rfl rfl rfl (does_bin rfl rfl (fun w => by kernel_rfl)) ?_
 intro a hA
 refine seq_end ?_
 refine hK18 _ _ ?_
 refine wp_seq_k (fun K19 hK19 => ?_)
 refine wp_cond_true (hA.ev rfl) ?_
 refine wp_skip ?_
 refine hK19 _ _ ?_
 refine wp_seq_k (fun K20 hK20 => ?_)
 refine wp_block ?_
 refine wp_seq_k (fun K21 hK21 => ?_)
 refine wp_region_lit ?_
 refine seq_do hA rfl rfl rfl (does_move rfl) ?_
 intro a hA
 obtain ⟨bx, ox, hx1, hx2, hx3⟩ := rb_open (i := 1) hb (by decide)
 refine seq_do (v := .pointer (some ⟨bx, ox + 1, none⟩)) hA rfl rfl rfl (does_indexRow (k := 1) Tryd.underlying22 (by kernel_rfl) rfl rfl rfl hx1 (by decide)) ?_
 intro a hA
 refine seq_do (v := .int .u8 1) hA rfl rfl rfl (m_loadR hM hx2 (hx3 1 (by decide)) ByW_is1_5 rfl) ?_
 intro a hA
 refine seq_do hA rfl rfl rfl (does_assign rfl) ?_
 intro a hA
 refine seq_do hA rfl rfl rfl (does_assign rfl) ?_
 intro a hA
 refine seq_end ?_
 refine hK21 _ _ ?_
 refine wp_draw (S := fun w1 => Mg w w1 ([])) (by kernel_rfl) ?_
 replace hM := hM.drew
 refine any_tk hA 0 rfl rfl rfl rfl hP (hM.sub (.cons _ (.cons _ (List.nil_sublist _)))) (fun w1 hM => does_move rfl) ?_
 intro a hA
 refine any_tk hA 1 rfl rfl rfl rfl hP (hM.sub (.cons _ (.cons _ (List.nil_sublist _)))) (fun w1 hM => does_move rfl) ?_
 intro a hA
 refine any_tk (v := .int .i64 0) hA 2 rfl rfl rfl rfl hP (hM.sub (.cons _ (.cons _ (List.nil_sublist _)))) (fun w1 hM => does_bin rfl rfl (fun w => by kernel_rfl)) ?_
 intro a hA
 refine any_tk (v := .pointer (some ⟨gw, 0 * 1, none⟩)) hA 3 rfl rfl rfl rfl hP (hM.sub (.cons _ (.cons _ (List.nil_sublist _)))) (fun w1 hM => does_indexE (k := 0) Tryd.underlying23 (by kernel_rfl) rfl rfl rfl (by decide)) ?_
 intro a hA
 refine any_tk hA 5 rfl rfl rfl rfl hP (hM.sub (.cons _ (.cons _ (List.nil_sublist _)))) (fun w1 hM => does_move rfl) ?_
 intro a hA
 refine any_tk (v := .int .u32 1) hA 6 rfl rfl rfl rfl hP (hM.sub (.cons _ (.cons _ (List.nil_sublist _)))) (fun w1 hM => does_convert rfl (fun w => by kernel_rfl)) ?_
 intro a hA
 refine any_tk hA 7 rfl rfl rfl rfl hP (hM.sub (.cons _ (.cons _ (List.nil_sublist _)))) (fun w1 hM => does_move rfl) ?_
 intro a hA
 refine any_tk (v := .int .i64 1) hA 8 rfl rfl rfl rfl hP (hM.sub (.cons _ (.cons _ (List.nil_sublist _)))) (fun w1 hM => does_bin rfl rfl (fun w => by kernel_rfl)) ?_
 intro a hA
 refine any_tk (v := .int .i64 8) hA 9 rfl rfl rfl rfl hP (hM.sub (.cons _ (.cons _ (List.nil_sublist _)))) (fun w1 hM => does_bin rfl rfl (fun w => by kernel_rfl)) ?_
 intro a hA
 refine any_tk (v := .int .u32 256) hA 10 rfl rfl rfl rfl hP (hM.sub (.cons _ (.cons _ (List.nil_sublist _)))) (fun w1 hM => does_bin rfl rfl (fun w => by kernel_rfl)) ?_
 intro a hA
 refine any_one (by kernel_rfl) (op_do (v := .int .u32 2) hA 4 rfl rfl rfl rfl (m_loadX hM 0 rfl (show ([.int .u32 2] : List Value)[0 * 1]? = some (.int .u32 2) from rfl) ByW_is1_52 rfl) (hM.sub (.cons _ (.cons _ (List.nil_sublist _)))) ?_)
 intro a hA
 refine any_tk (v := .int .u32 258) hA 11 rfl rfl rfl rfl hP (hM.sub (.cons _ (.cons _ (List.nil_sublist _)))) (fun w1 hM => does_bin rfl rfl (fun w => by kernel_rfl)) ?_
 intro a hA
 refine any_tk (v := .pointer (some ⟨gw, 0 * 1, none⟩)) hA 12 rfl rfl rfl rfl hP (hM.sub (.cons _ (.cons _ (List.nil_sublist _)))) (fun w1 hM => does_indexE (k := 0) Tryd.underlying23 (by kernel_rfl) rfl rfl rfl (by decide)) ?_
 intro a hA
 refine any_one (by kernel_rfl) (g_storeE (cs := [.int .u32 258]) (L' := (.row 52 1 (.slice (some ⟨gw, 0, none⟩) 1 1) 1 ([.int .u32 258]) :: .obj g2 (.cells #[.bool false, .slice none 0 0, .slice none 0 0, .bool false, .slice none 0 0, .slice none 0 0] 27) :: [])) (us := []) hA hM 13 rfl rfl rfl (m_storeE rfl rfl rfl (by kernel_rfl) hM 0 rfl (by decide) rfl) 0 rfl rfl ?_)
 intro w22 hM
 refine ⟨(hM.sub (.cons _ (.cons _ (List.nil_sublist _)))), ?_⟩
 refine any_end (by kernel_rfl) ?_
 refine hK20 _ _ ?_
 refine wp_region_lit ?_
 refine seq_do (v := .int .i64 2) hA rfl rfl rfl (does_bin rfl rfl (fun w => by kernel_rfl)) ?_
 intro a hA
 refine seq_do hA rfl rfl rfl (does_move rfl) ?_
 intro a hA
 refine seq_end ?_
 refine hK17 _ _ ?_
 refine rounds_k ?_
 intro K23 hK23
 refine wp_seq_k (fun K24 hK24 => ?_)
 refine wp_region_lit ?_
 refine seq_do (v := .bool false) hA rfl rfl rfl (does_bin rfl rfl (fun w => by kernel_rfl)) ?_
 intro a hA
 refine seq_end ?_
 refine hK24 _ _ ?_
 refine wp_seq_k (fun K25 hK25 => ?_)
 refine wp_cond_false (hA.ev rfl) ?_
 refine wp_exit ?_
 refine hK9 _ _ ?_
 refine wp_seq_k (fun K26 hK26 => ?_)
 refine wp_region_lit ?_
 refine seq_call hA rfl rfl rfl (enters_func rfl rfl (fun w => by kernel_rfl)) (int_fix0) ?_
 rintro _ w31 ⟨g27, g28, g29, rfl, hM30⟩
 replace hM : Mg w w31 (.row 52 1 (.slice (some ⟨g27, 0, none⟩) 0 2) 0 ([]) :: .row 52 1 (.slice (some ⟨g28, 0, none⟩) 1 2) 1 ([.int .u32 1]) :: .row 52 1 (.slice (some ⟨g29, 0, none⟩) 1 2) 1 ([.int .u32 1]) :: .row 52 1 (.slice (some ⟨gw, 0, none⟩) 1 1) 1 ([.int .u32 258]) :: .obj g2 (.cells #[.bool false, .slice none 0 0, .slice none 0 0, .bool false, .slice none 0 0, .slice none 0 0] 27) :: []) := (hM.both hM30 (noBld_cons (by simp) (noBld_cons (by simp) (noBld_quiet quietL_nil))) (noBld_cons (by simp) (noBld_cons (by simp) (noBld_cons (by simp) (noBld_quiet quietL_nil)))))
 refine ⟨_, rfl, ?_⟩
 intro a hA
 refine s_new (vs := [.bool false, .slice none 0 0, .slice none 0 0, .bool false, .slice none 0 0, .slice none 0 0]) (t := 27) hA hM rfl rfl rfl (fun g => .pointer (some ⟨g, 0, none⟩)) (does_alloc (z := .agg #[.bool false, .slice none 0 0, .slice none 0 0, .bool false, .slice none 0 0, .slice none 0 0]) (by kernel_rfl) rfl) (by decide) ?_
 intro g32 w33 hM a hA
 refine s_store (us := [.bool false, .slice (some ⟨g27, 0, none⟩) 0 2, .slice (some ⟨g28, 0, none⟩) 1 2, .bool false, .slice none 0 0, .slice (some ⟨g29, 0, none⟩) 1 2]) (L' := (.obj g32 (.cells #[.bool false, .slice (some ⟨g27, 0, none⟩) 0 2, .slice (some ⟨g28, 0, none⟩) 1 2, .bool false, .slice none 0 0, .slice (some ⟨g29, 0, none⟩) 1 2] 27) :: .row 52 1 (.slice (some ⟨g27, 0, none⟩) 0 2) 0 ([]) :: .row 52 1 (.slice (some ⟨g28, 0, none⟩) 1 2) 1 ([.int .u32 1]) :: .row 52 1 (.slice (some ⟨g29, 0, none⟩) 1 2) 1 ([.int .u32 1]) :: .row 52 1 (.slice (some ⟨gw, 0, none⟩) 1 1) 1 ([.int .u32 258]) :: .obj g2 (.cells #[.bool false, .slice none 0 0, .slice none 0 0, .bool false, .slice none 0 0, .slice none 0 0] 27) :: [])) hA hM rfl rfl (m_store rfl rfl rfl (by kernel_rfl) hM 0 rfl rfl rfl) 0 rfl rfl rfl ?_
 intro w34 hM
 refine seq_end ?_
 refine hK26 _ _ ?_
 refine wp_seq_k (fun K35 hK35 => ?_)
 refine wp_region_lit ?_
 refine seq_do hA rfl rfl rfl (does_move rfl) ?_
 intro a hA
 refine seq_do (v := .pointer (some ⟨g32, 0, none⟩)) hA rfl rfl rfl (does_field ByW_fld_27_0 rfl rfl) ?_
 intro a hA
 refine seq_do (v := .pointer (some ⟨g32, 1, none⟩)) hA rfl rfl rfl (does_field ByW_fld_25_1 rfl rfl) ?_
 intro a hA
 refine s_store (us := [.bool false, .slice (some ⟨gw, 0, none⟩) 1 1, .slice (some ⟨g28, 0, none⟩) 1 2, .bool false, .slice none 0 0, .slice (some ⟨g29, 0, none⟩) 1 2]) (L' := (.obj g32 (.cells #[.bool false, .slice (some ⟨gw, 0, none⟩) 1 1, .slice (some ⟨g28, 0, none⟩) 1 2, .bool false, .slice none 0 0, .slice (some ⟨g29, 0, none⟩) 1 2] 27) :: .row 52 1 (.slice (some ⟨g27, 0, none⟩) 0 2) 0 ([]) :: .row 52 1 (.slice (some ⟨g28, 0, none⟩) 1 2) 1 ([.int .u32 1]) :: .row 52 1 (.slice (some ⟨g29, 0, none⟩) 1 2) 1 ([.int .u32 1]) :: .row 52 1 (.slice (some ⟨gw, 0, none⟩) 1 1) 1 ([.int .u32 258]) :: .obj g2 (.cells #[.bool false, .slice none 0 0, .slice none 0 0, .bool false, .slice none 0 0, .slice none 0 0] 27) :: [])) hA hM rfl rfl (m_store rfl rfl rfl (by kernel_rfl) hM 0 rfl rfl rfl) 0 rfl rfl rfl ?_
 intro w36 hM
 refine seq_end ?_
 refine hK35 _ _ ?_
 refine wp_seq_k (fun K37 hK37 => ?_)
 refine wp_region_lit ?_
 refine seq_do hA rfl rfl rfl (m_loadS hM ByW_isS_27 rfl 0 rfl (cs := [.bool false, .slice (some ⟨gw, 0, none⟩) 1 1, .slice (some ⟨g28, 0, none⟩) 1 2, .bool false, .slice none 0 0, .slice (some ⟨g29, 0, none⟩) 1 2]) rfl rfl) ?_
 intro a hA
 refine s_store (us := [.bool false, .slice (some ⟨gw, 0, none⟩) 1 1, .slice (some ⟨g28, 0, none⟩) 1 2, .bool false, .slice none 0 0, .slice (some ⟨g29, 0, none⟩) 1 2]) (L' := (.obj g32 (.cells #[.bool false, .slice (some ⟨gw, 0, none⟩) 1 1, .slice (some ⟨g28, 0, none⟩) 1 2, .bool false, .slice none 0 0, .slice (some ⟨g29, 0, none⟩) 1 2] 27) :: .row 52 1 (.slice (some ⟨g27, 0, none⟩) 0 2) 0 ([]) :: .row 52 1 (.slice (some ⟨g28, 0, none⟩) 1 2) 1 ([.int .u32 1]) :: .row 52 1 (.slice (some ⟨g29, 0, none⟩) 1 2) 1 ([.int .u32 1]) :: .row 52 1 (.slice (some ⟨gw, 0, none⟩) 1 1) 1 ([.int .u32 258]) :: .obj g2 (.cells #[.bool false, .slice (some ⟨gw, 0, none⟩) 1 1, .slice (some ⟨g28, 0, none⟩) 1 2, .bool false, .slice none 0 0, .slice (some ⟨g29, 0, none⟩) 1 2] 27) :: [])) hA hM rfl rfl (m_store rfl rfl rfl (by kernel_rfl) hM 5 rfl rfl rfl) 5 rfl rfl rfl ?_
 intro w38 hM
 refine seq_end ?_
 refine hK37 _ _ ?_
 refine wp_ret ?_
 refine hret _ _ ?_
 refine ends (v := .agg #[.bool false, .slice (some ⟨gw, 0, none⟩) 1 1, .slice (some ⟨g28, 0, none⟩) 1 2, .bool false, .slice none 0 0, .slice (some ⟨g29, 0, none⟩) 1 2]) hA rfl (.cons (res_cellS hM ByW_isS_27 rfl 5 rfl (cs := [.bool false, .slice (some ⟨gw, 0, none⟩) 1 1, .slice (some ⟨g28, 0, none⟩) 1 2, .bool false, .slice none 0 0, .slice (some ⟨g29, 0, none⟩) 1 2]) rfl rfl) .nil) rfl ?_
 replace hM : Mg w w38 (.row 52 1 (.slice (some ⟨g28, 0, none⟩) 1 2) 1 ([.int .u32 1]) :: .row 52 1 (.slice (some ⟨g29, 0, none⟩) 1 2) 1 ([.int .u32 1]) :: .row 52 1 (.slice (some ⟨gw, 0, none⟩) 1 1) 1 ([.int .u32 258]) :: []) := by
   have h9 := hM.sub (.cons _ (.cons _ (.cons_cons _ (.cons_cons _ (.cons_cons _ (.cons _ (.refl _)))))))
   exact h9
 replace hM : Mg w w38 (.row 52 1 (.slice (some ⟨g29, 0, none⟩) 1 2) 1 ([.int .u32 1]) :: .row 52 1 (.slice (some ⟨g28, 0, none⟩) 1 2) 1 ([.int .u32 1]) :: .row 52 1 (.slice (some ⟨gw, 0, none⟩) 1 1) 1 ([.int .u32 258]) :: []) := hM.perm (List.perm_middle (l₁ := [_]))
 replace hM : Mg w w38 (.row 52 1 (.slice (some ⟨g28, 0, none⟩) 1 2) 1 ([.int .u32 1]) :: .row 52 1 (.slice (some ⟨g29, 0, none⟩) 1 2) 1 ([.int .u32 1]) :: .row 52 1 (.slice (some ⟨gw, 0, none⟩) 1 1) 1 ([.int .u32 258]) :: []) := hM.perm (List.perm_middle (l₁ := [_]))
 replace hM : Mg w w38 (.row 52 1 (.slice (some ⟨gw, 0, none⟩) 1 1) 1 ([.int .u32 258]) :: .row 52 1 (.slice (some ⟨g28, 0, none⟩) 1 2) 1 ([.int .u32 1]) :: .row 52 1 (.slice (some ⟨g29, 0, none⟩) 1 2) 1 ([.int .u32 1]) :: []) := hM.perm (List.perm_middle (l₁ := [_, _]))
 exact ⟨gw, g28, g29, rfl, hM⟩
theorem number_fix {w : World} {sp : Option Addr} {cp : Nat} (hp : Rb w sp [1, 2]) : Calls Tryd.prog 22 #[.agg #[.int .i64 2, .bool true, .bool false], .slice sp 2 cp] w fun e w' => ∃ g1 g2 g3, e = .returned (.agg #[.bool false, .slice (some ⟨g1, 0, none⟩) 1 1, .slice (some ⟨g2, 0, none⟩) 1 2, .bool false, .slice none 0 0, .slice (some ⟨g3, 0, none⟩) 1 2]) ∧ Mg w w' [.row 52 1 (.slice (some ⟨g1, 0, none⟩) 1 1) 1 [.int .u32 258], .row 52 1 (.slice (some ⟨g2, 0, none⟩) 1 2) 1 [.int .u32 1], .row 52 1 (.slice (some ⟨g3, 0, none⟩) 1 2) 1 [.int .u32 1]] := by
 have hM : Mg w w ([]) := Mg.start w
 refine walk_of (l := [(0, .agg #[.int .i64 2, .bool true, .bool false]), (1, .slice sp 2 cp)]) Tryd.func22 rfl Tryd.ntmps22 rfl rfl ?_
 intro Q hret hnorm hP a hA
 refine wp_seq_k (fun K1 hK1 => ?_)
 refine wp_region_lit ?_
 refine s_new (vs := [.int .i64 2, .bool true, .bool false]) (t := 47) hA hM rfl rfl rfl (fun g => .pointer (some ⟨g, 0, none⟩)) (does_box rfl rfl) (by decide) ?_
 intro g2 w3 hM a hA
 refine s_new (vs := [.bool false, .slice none 0 0, .slice none 0 0, .bool false, .slice none 0 0, .slice none 0 0]) (t := 27) hA hM rfl rfl rfl (fun g => .pointer (some ⟨g, 0, none⟩)) (does_alloc (z := .agg #[.bool false, .slice none 0 0, .slice none 0 0, .bool false, .slice none 0 0, .slice none 0 0]) (by kernel_rfl) rfl) (by decide) ?_
 intro g4 w5 hM a hA
 refine seq_end ?_
 refine hK1 _ _ ?_
 refine wp_seq_k (fun K6 hK6 => ?_)
 refine wp_region_lit ?_
 refine seq_do hA rfl rfl rfl (m_loadS hM ByW_isS_47 rfl 1 rfl (cs := [.int .i64 2, .bool true, .bool false]) rfl rfl) ?_
 intro a hA
 refine seq_do hA rfl rfl rfl (does_move rfl) ?_
 intro a hA
 refine seq_call hA rfl rfl rfl (enters_func rfl rfl (fun w => by kernel_rfl)) ((show Calls Tryd.prog 48 _ _ (fun e w' => ∃ g, e = .returned (.slice (some ⟨g, 0, none⟩) 2 2) ∧ Mg _ w' [.row BY 1 (.slice (some ⟨g, 0, none⟩) 2 2) 2 (Lib.byteCells [2, 1])]) from reordered_true (p := [1, 2]) (hp.below hM.bel) (by decide))) ?_
 rintro _ w9 ⟨g7, rfl, hM8⟩
 replace hM : Mg w w9 (.row BY 1 (.slice (some ⟨g7, 0, none⟩) 2 2) 2 ((Lib.byteCells [2, 1])) :: .obj g4 (.cells #[.bool false, .slice none 0 0, .slice none 0 0, .bool false, .slice none 0 0, .slice none 0 0] 27) :: .obj g2 (.cells #[.int .i64 2, .bool true, .bool false] 47) :: []) := (hM.both hM8 (noBld_cons (by simp) (noBld_cons (by simp) (noBld_quiet quietL_nil))) (noBld_cons (by simp) (noBld_quiet quietL_nil)))
 refine ⟨_, rfl, ?_⟩
 intro a hA
 refine seq_do hA rfl rfl rfl (does_assign rfl) ?_
 intro a hA
 refine seq_end ?_
 refine hK6 _ _ ?_
 refine wp_seq_k (fun K10 hK10 => ?_)
 refine wp_seq_k (fun K11 hK11 => ?_)
 refine wp_region_lit ?_
 refine seq_do (v := .pointer (some ⟨g2, 2, none⟩)) hA rfl rfl rfl (does_field ByW_fld_47_2 rfl rfl) ?_
 intro a hA
 refine seq_do hA rfl rfl rfl (m_load1 hM ByW_is1_4 rfl 2 rfl rfl) ?_
 intro a hA
 refine seq_do (v := .bool true) hA rfl rfl rfl (does_un rfl un_not) ?_
 intro a hA
 refine seq_do hA rfl rfl rfl (does_move rfl) ?_
 intro a hA
 refine seq_skip hA rfl rfl rfl ?_
 intro a hA
 refine seq_skip hA rfl rfl rfl ?_
 intro a hA
 refine seq_skip hA rfl rfl rfl ?_
 intro a hA
 refine seq_skip hA rfl rfl rfl ?_
 intro a hA
 refine seq_skip hA rfl rfl rfl ?_
 intro a hA
 refine seq_skip hA rfl rfl rfl ?_
 intro a hA
 refine seq_skip hA rfl rfl rfl ?_
 intro a hA
 refine seq_do (v := .bool true) hA rfl rfl rfl (does_pick rfl rfl rfl rfl) ?_
 intro a hA
 refine seq_end ?_
 refine hK11 _ _ ?_
 refine wp_cond_true (hA.ev rfl) ?_
 refine wp_seq_k (fun K12 hK12 => ?_)
 refine wp_region_lit ?_
 refine seq_do hA rfl rfl rfl (does_move rfl) ?_
 intro a hA
 refine seq_call hA rfl rfl rfl (enters_func rfl rfl (fun w => by kernel_rfl)) (natural_fix (rb_row (bs := [2, 1]) hM 0 rfl).1 (by decide)) ?_
 rintro _ w17 ⟨g13, g14, g15, rfl, hM16⟩
 replace hM : Mg w w17 (.row 52 1 (.slice (some ⟨g13, 0, none⟩) 1 1) 1 ([.int .u32 258]) :: .row 52 1 (.slice (some ⟨g14, 0, none⟩) 1 2) 1 ([.int .u32 1]) :: .row 52 1 (.slice (some ⟨g15, 0, none⟩) 1 2) 1 ([.int .u32 1]) :: .row BY 1 (.slice (some ⟨g7, 0, none⟩) 2 2) 2 ((Lib.byteCells [2, 1])) :: .obj g4 (.cells #[.bool false, .slice none 0 0, .slice none 0 0, .bool false, .slice none 0 0, .slice none 0 0] 27) :: .obj g2 (.cells #[.int .i64 2, .bool true, .bool false] 47) :: []) := (hM.both hM16 (noBld_cons (by simp) (noBld_cons (by simp) (noBld_cons (by simp) (noBld_quiet quietL_nil)))) (noBld_cons (by simp) (noBld_cons (by simp) (noBld_cons (by simp) (noBld_quiet quietL_nil)))))
 refine ⟨_, rfl, ?_⟩
 intro a hA
 refine s_store (us := [.bool false, .slice (some ⟨g13, 0, none⟩) 1 1, .slice (some ⟨g14, 0, none⟩) 1 2, .bool false, .slice none 0 0, .slice (some ⟨g15, 0, none⟩) 1 2]) (L' := (.row 52 1 (.slice (some ⟨g13, 0, none⟩) 1 1) 1 ([.int .u32 258]) :: .row 52 1 (.slice (some ⟨g14, 0, none⟩) 1 2) 1 ([.int .u32 1]) :: .row 52 1 (.slice (some ⟨g15, 0, none⟩) 1 2) 1 ([.int .u32 1]) :: .row BY 1 (.slice (some ⟨g7, 0, none⟩) 2 2) 2 ((Lib.byteCells [2, 1])) :: .obj g4 (.cells #[.bool false, .slice (some ⟨g13, 0, none⟩) 1 1, .slice (some ⟨g14, 0, none⟩) 1 2, .bool false, .slice none 0 0, .slice (some ⟨g15, 0, none⟩) 1 2] 27) :: .obj g2 (.cells #[.int .i64 2, .bool true, .bool false] 47) :: [])) hA hM rfl rfl (m_store rfl rfl rfl (by kernel_rfl) hM 4 rfl rfl rfl) 4 rfl rfl rfl ?_
 intro w18 hM
 refine seq_end ?_
 refine hK12 _ _ ?_
 refine wp_ret ?_
 refine hret _ _ ?_
 refine ends (v := .agg #[.bool false, .slice (some ⟨g13, 0, none⟩) 1 1, .slice (some ⟨g14, 0, none⟩) 1 2, .bool false, .slice none 0 0, .slice (some ⟨g15, 0, none⟩) 1 2]) hA rfl (.cons (res_cellS hM ByW_isS_27 rfl 4 rfl (cs := [.bool false, .slice (some ⟨g13, 0, none⟩) 1 1, .slice (some ⟨g14, 0, none⟩) 1 2, .bool false, .slice none 0 0, .slice (some ⟨g15, 0, none⟩) 1 2]) rfl rfl) .nil) rfl ?_
 replace hM : Mg w w18 (.row 52 1 (.slice (some ⟨g13, 0, none⟩) 1 1) 1 ([.int .u32 258]) :: .row 52 1 (.slice (some ⟨g14, 0, none⟩) 1 2) 1 ([.int .u32 1]) :: .row 52 1 (.slice (some ⟨g15, 0, none⟩) 1 2) 1 ([.int .u32 1]) :: []) := by
   have h9 := hM.sub (.cons_cons _ (.cons_cons _ (.cons_cons _ (.cons _ (.cons _ (.cons _ (.refl _)))))))
   exact h9
 replace hM : Mg w w18 (.row 52 1 (.slice (some ⟨g15, 0, none⟩) 1 2) 1 ([.int .u32 1]) :: .row 52 1 (.slice (some ⟨g13, 0, none⟩) 1 1) 1 ([.int .u32 258]) :: .row 52 1 (.slice (some ⟨g14, 0, none⟩) 1 2) 1 ([.int .u32 1]) :: []) := hM.perm (List.perm_middle (l₁ := [_, _]))
 replace hM : Mg w w18 (.row 52 1 (.slice (some ⟨g14, 0, none⟩) 1 2) 1 ([.int .u32 1]) :: .row 52 1 (.slice (some ⟨g15, 0, none⟩) 1 2) 1 ([.int .u32 1]) :: .row 52 1 (.slice (some ⟨g13, 0, none⟩) 1 1) 1 ([.int .u32 258]) :: []) := hM.perm (List.perm_middle (l₁ := [_, _]))
 replace hM : Mg w w18 (.row 52 1 (.slice (some ⟨g13, 0, none⟩) 1 1) 1 ([.int .u32 258]) :: .row 52 1 (.slice (some ⟨g14, 0, none⟩) 1 2) 1 ([.int .u32 1]) :: .row 52 1 (.slice (some ⟨g15, 0, none⟩) 1 2) 1 ([.int .u32 1]) :: []) := hM.perm (List.perm_middle (l₁ := [_, _]))
 exact ⟨g13, g14, g15, rfl, hM⟩
theorem get_fix {w : World} {so : Option Addr} {ca : Nat} (hb : Rb w so [1, 2]) (hca : 2 ≤ ca) : Calls Tryd.prog 7 #[.slice so 2 ca, .int .i64 0, .int .i64 2, .bool true, .bool false] w fun e w' => ∃ g1 g2 g3, e = .returned (.tuple #[.agg #[.bool false, .slice (some ⟨g1, 0, none⟩) 1 1, .slice (some ⟨g2, 0, none⟩) 1 2, .bool false, .slice none 0 0, .slice (some ⟨g3, 0, none⟩) 1 2], .int .i64 0]) ∧ Mg w w' [.row 52 1 (.slice (some ⟨g1, 0, none⟩) 1 1) 1 [.int .u32 258], .row 52 1 (.slice (some ⟨g2, 0, none⟩) 1 2) 1 [.int .u32 1], .row 52 1 (.slice (some ⟨g3, 0, none⟩) 1 2) 1 [.int .u32 1]] := by
 have hM : Mg w w ([]) := Mg.start w
 refine walk_of (l := [(0, .slice so 2 ca), (1, .int .i64 0), (2, .int .i64 2), (3, .bool true), (4, .bool false)]) Tryd.func7 rfl Tryd.ntmps7 rfl rfl ?_
 intro Q hret hnorm hP a hA
 refine wp_seq_k (fun K1 hK1 => ?_)
 refine wp_region_lit ?_
 refine s_new (vs := [.bool false, .slice none 0 0, .slice none 0 0, .bool false, .slice none 0 0, .slice none 0 0]) (t := 27) hA hM rfl rfl rfl (fun g => .pointer (some ⟨g, 0, none⟩)) (does_alloc (z := .agg #[.bool false, .slice none 0 0, .slice none 0 0, .bool false, .slice none 0 0, .slice none 0 0]) (by kernel_rfl) rfl) (by decide) ?_
 intro g2 w3 hM a hA
 refine seq_do hA rfl rfl rfl (does_assign rfl) ?_
 intro a hA
 refine seq_end ?_
 refine hK1 _ _ ?_
 refine wp_seq_k (fun K4 hK4 => ?_)
 refine wp_region_lit ?_
 refine seq_do hA rfl rfl rfl (does_move rfl) ?_
 intro a hA
 refine seq_do hA rfl rfl rfl (does_move rfl) ?_
 intro a hA
 refine seq_do hA rfl rfl rfl (does_move rfl) ?_
 intro a hA
 refine seq_do (v := .agg #[.int .i64 2, .bool true, .bool false]) hA rfl rfl rfl (does_build rfl (fun w => by kernel_rfl)) ?_
 intro a hA
 refine s_new (vs := [.int .i64 0, .bool false, .bool false]) (t := 47) hA hM rfl rfl rfl (fun g => .pointer (some ⟨g, 0, none⟩)) (does_alloc (z := .agg #[.int .i64 0, .bool false, .bool false]) (by kernel_rfl) rfl) (by decide) ?_
 intro g5 w6 hM a hA
 refine s_store (us := [.int .i64 2, .bool true, .bool false]) (L' := (.obj g5 (.cells #[.int .i64 2, .bool true, .bool false] 47) :: .obj g2 (.cells #[.bool false, .slice none 0 0, .slice none 0 0, .bool false, .slice none 0 0, .slice none 0 0] 27) :: [])) hA hM rfl rfl (m_store rfl rfl rfl (by kernel_rfl) hM 0 rfl rfl rfl) 0 rfl rfl rfl ?_
 intro w7 hM
 refine seq_end ?_
 refine hK4 _ _ ?_
 refine wp_seq_k (fun K8 hK8 => ?_)
 refine wp_seq_k (fun K9 hK9 => ?_)
 refine wp_region_lit ?_
 refine seq_do hA rfl rfl rfl (m_loadS hM ByW_isS_47 rfl 0 rfl (cs := [.int .i64 2, .bool true, .bool false]) rfl rfl) ?_
 intro a hA
 refine seq_call hA rfl rfl rfl (enters_func rfl rfl (fun w => by kernel_rfl)) ((show Calls Tryd.prog 20 _ _ (fun e w' => e = .returned (.bool true) ∧ Below _ _ w') from allowed_any (size := 2) (bg := true) (sg := false))) ?_
 rintro _ w11 ⟨rfl, hb10⟩
 replace hM := hM.call hb10
 refine ⟨_, rfl, ?_⟩
 intro a hA
 refine seq_do (v := .bool false) hA rfl rfl rfl (does_un rfl un_not) ?_
 intro a hA
 refine seq_do hA rfl rfl rfl (does_move rfl) ?_
 intro a hA
 refine seq_do hA rfl rfl rfl (does_move rfl) ?_
 intro a hA
 refine seq_do hA rfl rfl rfl (does_move rfl) ?_
 intro a hA
 refine seq_do hA rfl rfl rfl (does_move rfl) ?_
 intro a hA
 refine seq_call hA rfl rfl rfl (enters_func rfl rfl (fun w => by kernel_rfl)) ((show Calls Tryd.prog 21 _ _ (fun e w' => e = .returned (.bool true) ∧ Below _ _ w') from within_any (l := [1, 2]) (ap := 0) (n := 2) (by decide) (by decide) (by decide) (by decide) (by decide))) ?_
 rintro _ w13 ⟨rfl, hb12⟩
 replace hM := hM.call hb12
 refine ⟨_, rfl, ?_⟩
 intro a hA
 refine seq_do (v := .bool false) hA rfl rfl rfl (does_un rfl un_not) ?_
 intro a hA
 refine seq_do (v := .bool false) hA rfl rfl rfl (does_pick rfl rfl rfl rfl) ?_
 intro a hA
 refine seq_end ?_
 refine hK9 _ _ ?_
 refine wp_cond_false (hA.ev rfl) ?_
 refine wp_skip ?_
 refine hK8 _ _ ?_
 refine wp_seq_k (fun K14 hK14 => ?_)
 refine wp_draw (S := fun w1 => Mg w w1 (.obj g5 (.cells #[.int .i64 2, .bool true, .bool false] 47) :: [])) (by kernel_rfl) ?_
 replace hM := hM.drew
 refine any_tk hA 0 rfl rfl rfl rfl hP (hM.sub (.cons_cons _ (.cons _ (List.nil_sublist _)))) (fun w1 hM => m_loadS hM ByW_isS_47 rfl 0 rfl (cs := [.int .i64 2, .bool true, .bool false]) rfl rfl) ?_
 intro a hA
 refine any_tk hA 1 rfl rfl rfl rfl hP (hM.sub (.cons_cons _ (.cons _ (List.nil_sublist _)))) (fun w1 hM => does_move rfl) ?_
 intro a hA
 refine any_tk hA 2 rfl rfl rfl rfl hP (hM.sub (.cons_cons _ (.cons _ (List.nil_sublist _)))) (fun w1 hM => does_move rfl) ?_
 intro a hA
 refine any_tk hA 3 rfl rfl rfl rfl hP (hM.sub (.cons_cons _ (.cons _ (List.nil_sublist _)))) (fun w1 hM => does_move rfl) ?_
 intro a hA
 refine any_tk hA 4 rfl rfl rfl rfl hP (hM.sub (.cons_cons _ (.cons _ (List.nil_sublist _)))) (fun w1 hM => does_move rfl) ?_
 intro a hA
 refine any_tk (v := .int .i64 2) hA 5 rfl rfl rfl rfl hP (hM.sub (.cons_cons _ (.cons _ (List.nil_sublist _)))) (fun w1 hM => does_bin rfl rfl (fun w => by kernel_rfl)) ?_
 intro a hA
 refine any_tk (v := .slice ((dropA so ca 0)) 2 ((ca - 0))) hA 6 rfl rfl rfl rfl hP (hM.sub (.cons_cons _ (.cons _ (List.nil_sublist _)))) (fun w1 hM => does_lh (lo := 0) (hi := 2) Tryd.underlying22 (by kernel_rfl) rfl rfl rfl rfl rfl (by decide) hca rfl) ?_
 intro a hA
 refine any_one (by kernel_rfl) (op_call hA 7 rfl rfl rfl rfl (enters_func rfl rfl (fun w => by kernel_rfl)) (number_fix (show Rb _ _ [1, 2] from ((hb.drop ca 0 hca).below hM.bel))) ?_)
 rintro _ w19 ⟨g15, g16, g17, rfl, hM18⟩
 replace hM : Mg w w19 (.row 52 1 (.slice (some ⟨g15, 0, none⟩) 1 1) 1 ([.int .u32 258]) :: .row 52 1 (.slice (some ⟨g16, 0, none⟩) 1 2) 1 ([.int .u32 1]) :: .row 52 1 (.slice (some ⟨g17, 0, none⟩) 1 2) 1 ([.int .u32 1]) :: .obj g5 (.cells #[.int .i64 2, .bool true, .bool false] 47) :: .obj g2 (.cells #[.bool false, .slice none 0 0, .slice none 0 0, .bool false, .slice none 0 0, .slice none 0 0] 27) :: []) := (hM.both hM18 (noBld_cons (by simp) (noBld_cons (by simp) (noBld_quiet quietL_nil))) (noBld_cons (by simp) (noBld_cons (by simp) (noBld_cons (by simp) (noBld_quiet quietL_nil)))))
 refine ⟨_, rfl, (hM.sub (.cons _ (.cons _ (.cons _ (.cons_cons _ (.cons _ (List.nil_sublist _))))))), ?_⟩
 intro a hA
 refine any_one (by kernel_rfl) (g_store (us := [.bool false, .slice (some ⟨g15, 0, none⟩) 1 1, .slice (some ⟨g16, 0, none⟩) 1 2, .bool false, .slice none 0 0, .slice (some ⟨g17, 0, none⟩) 1 2]) (L' := (.row 52 1 (.slice (some ⟨g15, 0, none⟩) 1 1) 1 ([.int .u32 258]) :: .row 52 1 (.slice (some ⟨g16, 0, none⟩) 1 2) 1 ([.int .u32 1]) :: .row 52 1 (.slice (some ⟨g17, 0, none⟩) 1 2) 1 ([.int .u32 1]) :: .obj g5 (.cells #[.int .i64 2, .bool true, .bool false] 47) :: .obj g2 (.cells #[.bool false, .slice (some ⟨g15, 0, none⟩) 1 1, .slice (some ⟨g16, 0, none⟩) 1 2, .bool false, .slice none 0 0, .slice (some ⟨g17, 0, none⟩) 1 2] 27) :: [])) hA hM 8 rfl rfl rfl (m_store rfl rfl rfl (by kernel_rfl) hM 4 rfl rfl rfl) 4 rfl rfl rfl ?_)
 intro w20 hM
 refine ⟨(hM.sub (.cons _ (.cons _ (.cons _ (.cons_cons _ (.cons _ (List.nil_sublist _))))))), ?_⟩
 refine any_tk hA 9 rfl rfl rfl rfl hP (hM.sub (.cons _ (.cons _ (.cons _ (.cons_cons _ (.cons _ (List.nil_sublist _))))))) (fun w1 hM => does_assign rfl) ?_
 intro a hA
 refine any_end (by kernel_rfl) ?_
 refine hK14 _ _ ?_
 refine wp_ret ?_
 refine hret _ _ ?_
 refine ends (v := .tuple #[.agg #[.bool false, .slice (some ⟨g15, 0, none⟩) 1 1, .slice (some ⟨g16, 0, none⟩) 1 2, .bool false, .slice none 0 0, .slice (some ⟨g17, 0, none⟩) 1 2], .int .i64 0]) hA rfl (.cons (res_cellS hM ByW_isS_27 rfl 4 rfl (cs := [.bool false, .slice (some ⟨g15, 0, none⟩) 1 1, .slice (some ⟨g16, 0, none⟩) 1 2, .bool false, .slice none 0 0, .slice (some ⟨g17, 0, none⟩) 1 2]) rfl rfl) (.cons (res_tmp rfl) .nil)) rfl ?_
 replace hM : Mg w w20 (.row 52 1 (.slice (some ⟨g15, 0, none⟩) 1 1) 1 ([.int .u32 258]) :: .row 52 1 (.slice (some ⟨g16, 0, none⟩) 1 2) 1 ([.int .u32 1]) :: .row 52 1 (.slice (some ⟨g17, 0, none⟩) 1 2) 1 ([.int .u32 1]) :: []) := by
   have h9 := hM.sub (.cons_cons _ (.cons_cons _ (.cons_cons _ (.cons _ (.cons _ (.refl _))))))
   exact h9
 replace hM : Mg w w20 (.row 52 1 (.slice (some ⟨g17, 0, none⟩) 1 2) 1 ([.int .u32 1]) :: .row 52 1 (.slice (some ⟨g15, 0, none⟩) 1 1) 1 ([.int .u32 258]) :: .row 52 1 (.slice (some ⟨g16, 0, none⟩) 1 2) 1 ([.int .u32 1]) :: []) := hM.perm (List.perm_middle (l₁ := [_, _]))
 replace hM : Mg w w20 (.row 52 1 (.slice (some ⟨g16, 0, none⟩) 1 2) 1 ([.int .u32 1]) :: .row 52 1 (.slice (some ⟨g17, 0, none⟩) 1 2) 1 ([.int .u32 1]) :: .row 52 1 (.slice (some ⟨g15, 0, none⟩) 1 1) 1 ([.int .u32 258]) :: []) := hM.perm (List.perm_middle (l₁ := [_, _]))
 replace hM : Mg w w20 (.row 52 1 (.slice (some ⟨g15, 0, none⟩) 1 1) 1 ([.int .u32 258]) :: .row 52 1 (.slice (some ⟨g16, 0, none⟩) 1 2) 1 ([.int .u32 1]) :: .row 52 1 (.slice (some ⟨g17, 0, none⟩) 1 2) 1 ([.int .u32 1]) :: []) := hM.perm (List.perm_middle (l₁ := [_, _]))
 exact ⟨g15, g16, g17, rfl, hM⟩
theorem sc_nil {w : World} : Sc w none 0 [] := ⟨⟨fun x hx => (by cases hx), fun h => absurd rfl h⟩, fun _ => rfl, Nat.le_refl _⟩
theorem same_fix {w : World} {o1 o2 o3 o4 u1 u2 u3 u4 : Option Addr} {c1 c2 c3 c4 d1 d2 d3 d4 : Nat} (ha : Nm w (Q6.whole false 258) o1 c1 o2 c2 o3 c3 o4 c4) (hu : Nm w (Q6.whole false 258) u1 d1 u2 d2 u3 d3 u4 d4) : Calls Tryd.prog 18 #[.agg #[.bool false, .slice o1 1 c1, .slice o2 1 c2, .bool false, .slice o3 0 c3, .slice o4 1 c4], .agg #[.bool false, .slice u1 1 d1, .slice u2 1 d2, .bool false, .slice u3 0 d3, .slice u4 1 d4]] w fun e w' => e = .returned (.bool true) ∧ Below w.heap.size w w' := by
  have h := sameQ_any ha (lenQ_whole len_258) hu (lenQ_whole len_258) (sameQ_self (soundQ_whole len_258 (by decide)))
  have e : ∀ p1 b1 p2 b2 p3 b3 p4 b4, numV (Q6.whole false 258) p1 b1 p2 b2 p3 b3 p4 b4 = .agg #[.bool false, .slice p1 1 b1, .slice p2 1 b2, .bool false, .slice p3 0 b3, .slice p4 1 b4] := by
    intro p1 b1 p2 b2 p3 b3 p4 b4
    unfold numV Q6.whole
    rw [words_258]
    rfl
  rw [e, e] at h
  exact h
theorem awake5_any {w : World} : Calls Tryd.prog 9 #[] w fun e w' => e = .returned (.bool true) ∧ Below w.heap.size w w' := by
 have hM : Mg w w ([]) := Mg.start w
 refine walk_of (l := []) Tryd.func9 rfl Tryd.ntmps9 rfl rfl ?_
 intro Q hret hnorm hP a hA
 refine wp_seq_k (fun K1 hK1 => ?_)
 refine wp_region_lit ?_
 refine seq_do hA rfl rfl rfl (does_assign rfl) ?_
 intro a hA
 refine seq_end ?_
 refine hK1 _ _ ?_
 refine wp_seq_k (fun K2 hK2 => ?_)
 refine wp_region_lit ?_
 refine s_lit (vs := [.int .u8 1, .int .u8 2]) hA hM rfl rfl rfl (does_buildSlice rfl (by kernel_rfl)) rfl rfl (noBld_quiet quietL_nil) ?_
 intro g3 w4 hM a hA
 replace hM : Mg w w4 (.row BY 1 (.slice (some ⟨g3, 0, none⟩) 2 2) 2 ((Lib.byteCells [1, 2])) :: []) := hM
 refine seq_call hA rfl rfl rfl (enters_func rfl rfl (fun w => by kernel_rfl)) (get_fix (rb_row (bs := [1, 2]) hM 0 rfl).1 (by decide)) ?_
 rintro _ w9 ⟨g5, g6, g7, rfl, hM8⟩
 replace hM : Mg w w9 (.row 52 1 (.slice (some ⟨g5, 0, none⟩) 1 1) 1 ([.int .u32 258]) :: .row 52 1 (.slice (some ⟨g6, 0, none⟩) 1 2) 1 ([.int .u32 1]) :: .row 52 1 (.slice (some ⟨g7, 0, none⟩) 1 2) 1 ([.int .u32 1]) :: .row BY 1 (.slice (some ⟨g3, 0, none⟩) 2 2) 2 ((Lib.byteCells [1, 2])) :: []) := (hM.both hM8 (noBld_cons (by simp) (noBld_quiet quietL_nil)) (noBld_cons (by simp) (noBld_cons (by simp) (noBld_cons (by simp) (noBld_quiet quietL_nil)))))
 refine ⟨_, rfl, ?_⟩
 intro a hA
 refine seq_do hA rfl rfl rfl (does_move rfl) ?_
 intro a hA
 refine seq_do (v := .agg #[.bool false, .slice (some ⟨g5, 0, none⟩) 1 1, .slice (some ⟨g6, 0, none⟩) 1 2, .bool false, .slice none 0 0, .slice (some ⟨g7, 0, none⟩) 1 2]) hA rfl rfl rfl (does_extract (vs := [.agg #[.bool false, .slice (some ⟨g5, 0, none⟩) 1 1, .slice (some ⟨g6, 0, none⟩) 1 2, .bool false, .slice none 0 0, .slice (some ⟨g7, 0, none⟩) 1 2], .int .i64 0]) rfl rfl) ?_
 intro a hA
 refine seq_do (v := .int .i64 0) hA rfl rfl rfl (does_extract (vs := [.agg #[.bool false, .slice (some ⟨g5, 0, none⟩) 1 1, .slice (some ⟨g6, 0, none⟩) 1 2, .bool false, .slice none 0 0, .slice (some ⟨g7, 0, none⟩) 1 2], .int .i64 0]) rfl rfl) ?_
 intro a hA
 refine s_new (vs := [.bool false, .slice none 0 0, .slice none 0 0, .bool false, .slice none 0 0, .slice none 0 0]) (t := 27) hA hM rfl rfl rfl (fun g => .pointer (some ⟨g, 0, none⟩)) (does_alloc (z := .agg #[.bool false, .slice none 0 0, .slice none 0 0, .bool false, .slice none 0 0, .slice none 0 0]) (by kernel_rfl) rfl) (by decide) ?_
 intro g10 w11 hM a hA
 refine s_store (us := [.bool false, .slice (some ⟨g5, 0, none⟩) 1 1, .slice (some ⟨g6, 0, none⟩) 1 2, .bool false, .slice none 0 0, .slice (some ⟨g7, 0, none⟩) 1 2]) (L' := (.obj g10 (.cells #[.bool false, .slice (some ⟨g5, 0, none⟩) 1 1, .slice (some ⟨g6, 0, none⟩) 1 2, .bool false, .slice none 0 0, .slice (some ⟨g7, 0, none⟩) 1 2] 27) :: .row 52 1 (.slice (some ⟨g5, 0, none⟩) 1 1) 1 ([.int .u32 258]) :: .row 52 1 (.slice (some ⟨g6, 0, none⟩) 1 2) 1 ([.int .u32 1]) :: .row 52 1 (.slice (some ⟨g7, 0, none⟩) 1 2) 1 ([.int .u32 1]) :: .row BY 1 (.slice (some ⟨g3, 0, none⟩) 2 2) 2 ((Lib.byteCells [1, 2])) :: [])) hA hM rfl rfl (m_store rfl rfl rfl (by kernel_rfl) hM 0 rfl rfl rfl) 0 rfl rfl rfl ?_
 intro w12 hM
 refine seq_do hA rfl rfl rfl (does_assign rfl) ?_
 intro a hA
 refine seq_end ?_
 refine hK2 _ _ ?_
 refine wp_seq_k (fun K13 hK13 => ?_)
 refine wp_draw (S := fun w1 => Mg w w1 (.obj g10 (.cells #[.bool false, .slice (some ⟨g5, 0, none⟩) 1 1, .slice (some ⟨g6, 0, none⟩) 1 2, .bool false, .slice none 0 0, .slice (some ⟨g7, 0, none⟩) 1 2] 27) :: [])) (by kernel_rfl) ?_
 replace hM := hM.drew
 refine any_tk hA 0 rfl rfl rfl rfl hP (hM.sub (.cons_cons _ (.cons _ (.cons _ (.cons _ (.cons _ (List.nil_sublist _))))))) (fun w1 hM => does_move rfl) ?_
 intro a hA
 refine any_tk (v := .bool true) hA 1 rfl rfl rfl rfl hP (hM.sub (.cons_cons _ (.cons _ (.cons _ (.cons _ (.cons _ (List.nil_sublist _))))))) (fun w1 hM => does_bin rfl rfl (fun w => by kernel_rfl)) ?_
 intro a hA
 refine any_tk hA 2 rfl rfl rfl rfl hP (hM.sub (.cons_cons _ (.cons _ (.cons _ (.cons _ (.cons _ (List.nil_sublist _))))))) (fun w1 hM => does_move rfl) ?_
 intro a hA
 refine any_tk hA 3 rfl rfl rfl rfl hP (hM.sub (.cons_cons _ (.cons _ (.cons _ (.cons _ (.cons _ (List.nil_sublist _))))))) (fun w1 hM => m_loadS hM ByW_isS_27 rfl 0 rfl (cs := [.bool false, .slice (some ⟨g5, 0, none⟩) 1 1, .slice (some ⟨g6, 0, none⟩) 1 2, .bool false, .slice none 0 0, .slice (some ⟨g7, 0, none⟩) 1 2]) rfl rfl) ?_
 intro a hA
 refine any_one (by kernel_rfl) (op_call hA 4 rfl rfl rfl rfl (enters_func rfl rfl (fun w => by kernel_rfl)) (int_fix258) ?_)
 rintro _ w18 ⟨g14, g15, g16, rfl, hM17⟩
 replace hM : Mg w w18 (.row 52 1 (.slice (some ⟨g14, 0, none⟩) 1 2) 1 ([.int .u32 258]) :: .row 52 1 (.slice (some ⟨g15, 0, none⟩) 1 2) 1 ([.int .u32 1]) :: .row 52 1 (.slice (some ⟨g16, 0, none⟩) 1 2) 1 ([.int .u32 1]) :: .obj g10 (.cells #[.bool false, .slice (some ⟨g5, 0, none⟩) 1 1, .slice (some ⟨g6, 0, none⟩) 1 2, .bool false, .slice none 0 0, .slice (some ⟨g7, 0, none⟩) 1 2] 27) :: .row 52 1 (.slice (some ⟨g5, 0, none⟩) 1 1) 1 ([.int .u32 258]) :: .row 52 1 (.slice (some ⟨g6, 0, none⟩) 1 2) 1 ([.int .u32 1]) :: .row 52 1 (.slice (some ⟨g7, 0, none⟩) 1 2) 1 ([.int .u32 1]) :: .row BY 1 (.slice (some ⟨g3, 0, none⟩) 2 2) 2 ((Lib.byteCells [1, 2])) :: []) := (hM.both hM17 (noBld_cons (by simp) (noBld_cons (by simp) (noBld_cons (by simp) (noBld_cons (by simp) (noBld_cons (by simp) (noBld_quiet quietL_nil)))))) (noBld_cons (by simp) (noBld_cons (by simp) (noBld_cons (by simp) (noBld_quiet quietL_nil)))))
 refine ⟨_, rfl, (hM.sub (.cons _ (.cons _ (.cons _ (.cons_cons _ (.cons _ (.cons _ (.cons _ (.cons _ (List.nil_sublist _)))))))))), ?_⟩
 intro a hA
 refine any_one (by kernel_rfl) (op_call hA 5 rfl rfl rfl rfl (enters_func rfl rfl (fun w => by kernel_rfl)) ((same_fix (show Nm _ (Q6.whole false 258) (some ⟨g5, 0, none⟩) 1 (some ⟨g6, 0, none⟩) 2 none 0 (some ⟨g7, 0, none⟩) 2 from ⟨(by show Sc _ _ _ (words 258); rw [words_258]; exact rd_row (x := 258) hM 4 rfl (by decide)), rd_row (x := 1) hM 5 rfl (by decide), sc_nil, rd_row (x := 1) hM 6 rfl (by decide)⟩) (show Nm _ (Q6.whole false 258) (some ⟨g14, 0, none⟩) 2 (some ⟨g15, 0, none⟩) 2 none 0 (some ⟨g16, 0, none⟩) 2 from ⟨(by show Sc _ _ _ (words 258); rw [words_258]; exact rd_row (x := 258) hM 0 rfl (by decide)), rd_row (x := 1) hM 1 rfl (by decide), sc_nil, rd_row (x := 1) hM 2 rfl (by decide)⟩))) ?_)
 rintro _ w20 ⟨rfl, hb19⟩
 replace hM := hM.call hb19
 refine ⟨_, rfl, (hM.sub (.cons _ (.cons _ (.cons _ (.cons_cons _ (.cons _ (.cons _ (.cons _ (.cons _ (List.nil_sublist _)))))))))), ?_⟩
 intro a hA
 refine any_tk (v := .bool true) hA 6 rfl rfl rfl rfl hP (hM.sub (.cons _ (.cons _ (.cons _ (.cons_cons _ (.cons _ (.cons _ (.cons _ (.cons _ (List.nil_sublist _)))))))))) (fun w1 hM => does_pick rfl rfl rfl rfl) ?_
 intro a hA
 refine any_tk hA 7 rfl rfl rfl rfl hP (hM.sub (.cons _ (.cons _ (.cons _ (.cons_cons _ (.cons _ (.cons _ (.cons _ (.cons _ (List.nil_sublist _)))))))))) (fun w1 hM => does_assign rfl) ?_
 intro a hA
 refine any_end (by kernel_rfl) ?_
 refine hK13 _ _ ?_
 refine wp_ret ?_
 refine hret _ _ ?_
 refine ends (v := .bool true) hA rfl (.cons (res_tmp rfl) .nil) rfl ?_
 exact ⟨rfl, hM.bel⟩
end Go.Proofs.YtoeofpncdchicaaDoor.G
namespace Go.Proofs.YtoeofpncdchicaaDoor.G
open Go.RowKit
set_option linter.unusedVariables false
set_option linter.unusedSimpArgs false
set_option maxRecDepth 100000

theorem copies_any {w : World} {so to_ : Option Addr} {ca cb : Nat} {l m : List UInt8} {fr ap n : Int} (hA9 : Rb w so l) (hB : Rb w to_ m) (hl : l.length ≤ 140737488351232) (hm : m.length ≤ 140737488351232) (hca : l.length ≤ ca) (hcb : m.length ≤ cb) (hfr0 : -9223372036854775808 ≤ fr) (hfr1 : fr ≤ 9223372036854775807) (hap0 : -9223372036854775808 ≤ ap) (hap1 : ap ≤ 9223372036854775807) (hn0 : -9223372036854775808 ≤ n) (hn1 : n ≤ 9223372036854775807) : Calls Tryd.prog 4 #[.slice so l.length ca, .int .i64 fr, .slice to_ m.length cb, .int .i64 ap, .int .i64 n] w fun e w' => e = .returned (.bool true) ∧ Below w.heap.size w w' := by
 have hM : Mg w w ([]) := Mg.start w
 refine walk_of (l := [(0, .slice so l.length ca), (1, .int .i64 fr), (2, .slice to_ m.length cb), (3, .int .i64 ap), (4, .int .i64 n)]) Tryd.func4 rfl Tryd.ntmps4 rfl rfl ?_
 intro Q hret hnorm hP a hA
 refine wp_seq_k (fun K1 hK1 => ?_)
 refine wp_region_lit ?_
 refine seq_do hA rfl rfl rfl (does_assign rfl) ?_
 intro a hA
 refine seq_end ?_
 refine hK1 _ _ ?_
 refine wp_seq_k (fun K2 hK2 => ?_)
 refine wp_region_lit ?_
 refine s_lit (vs := []) hA hM rfl rfl rfl (does_buildSlice rfl (by kernel_rfl)) rfl rfl (noBld_quiet quietL_nil) ?_
 intro g3 w4 hM a hA
 refine seq_do hA rfl rfl rfl (does_move rfl) ?_
 intro a hA
 refine s_append (k := 0) (q := 0) (m := l.length) (xs := []) (news := Lib.byteCells l) (L' := fun v5 => (.row BY 1 (v5) ((0 + l.length)) (([] ++ Lib.byteCells l)) :: [])) hA rfl rfl rfl (m_appendA Tryd.underlying22 (by kernel_rfl) hM 0 rfl rfl (show Rb _ _ l from (hA9.below hM.bel)) rfl (by first | omega | (simp only [List.length_nil]; omega) | (simp only [List.length_append, List.length_take, List.length_drop, List.length_nil]; omega))) (fun _ => rfl) ?_
 intro v5 w6 hM a hA
 replace hM : Mg w w6 (.row BY 1 (v5) l.length ((Lib.byteCells l)) :: []) := by
   have h9 := hM
   rw [Nat.zero_add, List.nil_append] at h9
   exact h9
 obtain ⟨so7, ca8, rfl⟩ := owns_slice (hM.has 0 rfl)
 refine s_lit (vs := []) hA hM rfl rfl rfl (does_buildSlice rfl (by kernel_rfl)) rfl rfl (noBld_cons (by simp) (noBld_quiet quietL_nil)) ?_
 intro g9 w10 hM a hA
 refine seq_do hA rfl rfl rfl (does_move rfl) ?_
 intro a hA
 refine s_append (k := 0) (q := 0) (m := m.length) (xs := []) (news := Lib.byteCells m) (L' := fun v11 => (.row BY 1 (v11) ((0 + m.length)) (([] ++ Lib.byteCells m)) :: .row BY 1 (.slice so7 l.length ca8) l.length ((Lib.byteCells l)) :: [])) hA rfl rfl rfl (m_appendA Tryd.underlying22 (by kernel_rfl) hM 0 rfl rfl (show Rb _ _ m from (hB.below hM.bel)) rfl (by first | omega | (simp only [List.length_nil]; omega) | (simp only [List.length_append, List.length_take, List.length_drop, List.length_nil]; omega))) (fun _ => rfl) ?_
 intro v11 w12 hM a hA
 replace hM : Mg w w12 (.row BY 1 (v11) m.length ((Lib.byteCells m)) :: .row BY 1 (.slice so7 l.length ca8) l.length ((Lib.byteCells l)) :: []) := by
   have h9 := hM
   rw [Nat.zero_add, List.nil_append] at h9
   exact h9
 obtain ⟨so13, ca14, rfl⟩ := owns_slice (hM.has 0 rfl)
 refine seq_do hA rfl rfl rfl (does_assign rfl) ?_
 intro a hA
 refine seq_do hA rfl rfl rfl (does_assign rfl) ?_
 intro a hA
 refine seq_end ?_
 refine hK2 _ _ ?_
 refine wp_seq_k (fun K15 hK15 => ?_)
 refine wp_region_lit ?_
 refine seq_do hA rfl rfl rfl (does_move rfl) ?_
 intro a hA
 refine seq_do hA rfl rfl rfl (does_move rfl) ?_
 intro a hA
 refine seq_do hA rfl rfl rfl (does_move rfl) ?_
 intro a hA
 refine seq_do hA rfl rfl rfl (does_move rfl) ?_
 intro a hA
 refine seq_do hA rfl rfl rfl (does_move rfl) ?_
 intro a hA
 refine seq_call hA rfl rfl rfl (enters_func rfl rfl (fun w => by kernel_rfl)) (copy_any (l := l) (m := m) (ca := ca8) (cb := ca14) (rb_row hM 1 rfl).1 (rb_row hM 0 rfl).1 hl hm (own_cap hM 1 rfl) (own_cap hM 0 rfl) hfr0 hfr1 hap0 hap1 hn0 hn1) ?_
 rintro _ w20 ⟨v16, rfl, hM17⟩
 obtain ⟨so18, ca19, rfl⟩ := owns_slice (hM17.has 0 rfl)
 replace hM : Mg w w20 (.row BY 1 (.slice so18 ((cpR l fr m ap n).1.length) ca19) ((cpR l fr m ap n).1.length) ((Lib.byteCells (cpR l fr m ap n).1)) :: .row BY 1 (.slice so13 m.length ca14) m.length ((Lib.byteCells m)) :: .row BY 1 (.slice so7 l.length ca8) l.length ((Lib.byteCells l)) :: []) := (hM.both hM17 (noBld_cons (by simp) (noBld_cons (by simp) (noBld_quiet quietL_nil))) (noBld_cons (by simp) (noBld_quiet quietL_nil)))
 refine ⟨_, rfl, ?_⟩
 intro a hA
 refine seq_do hA rfl rfl rfl (does_move rfl) ?_
 intro a hA
 refine seq_do (v := .slice so18 ((cpR l fr m ap n).1.length) ca19) hA rfl rfl rfl (does_extract (vs := [.slice so18 ((cpR l fr m ap n).1.length) ca19, .int .i64 ((cpR l fr m ap n).2)]) rfl rfl) ?_
 intro a hA
 refine seq_do (v := .int .i64 ((cpR l fr m ap n).2)) hA rfl rfl rfl (does_extract (vs := [.slice so18 ((cpR l fr m ap n).1.length) ca19, .int .i64 ((cpR l fr m ap n).2)]) rfl rfl) ?_
 intro a hA
 refine seq_do hA rfl rfl rfl (does_assign rfl) ?_
 intro a hA
 refine seq_do hA rfl rfl rfl (does_assign rfl) ?_
 intro a hA
 refine seq_end ?_
 refine hK15 _ _ ?_
 refine wp_seq_k (fun K21 hK21 => ?_)
 refine wp_region_lit ?_
 refine seq_do hA rfl rfl rfl (does_move rfl) ?_
 intro a hA
 refine seq_do hA rfl rfl rfl (does_move rfl) ?_
 intro a hA
 refine seq_do hA rfl rfl rfl (does_move rfl) ?_
 intro a hA
 refine seq_do hA rfl rfl rfl (does_move rfl) ?_
 intro a hA
 refine seq_do hA rfl rfl rfl (does_move rfl) ?_
 intro a hA
 refine seq_call hA rfl rfl rfl (enters_func rfl rfl (fun w => by kernel_rfl)) (rcopyB_any (l := l) (m := m) (ca := ca) (cb := cb) (hA9.below hM.bel) (hB.below hM.bel) hl hm hca hcb hfr0 hfr1 hap0 hap1 hn0 hn1) ?_
 rintro _ w26 ⟨v22, rfl, hM23⟩
 obtain ⟨so24, ca25, rfl⟩ := owns_slice (hM23.has 0 rfl)
 replace hM : Mg w w26 (.row BY 1 (.slice so24 ((cpR l fr m ap n).1.length) ca25) ((cpR l fr m ap n).1.length) ((Lib.byteCells (cpR l fr m ap n).1)) :: .row BY 1 (.slice so18 ((cpR l fr m ap n).1.length) ca19) ((cpR l fr m ap n).1.length) ((Lib.byteCells (cpR l fr m ap n).1)) :: .row BY 1 (.slice so13 m.length ca14) m.length ((Lib.byteCells m)) :: .row BY 1 (.slice so7 l.length ca8) l.length ((Lib.byteCells l)) :: []) := (hM.both hM23 (noBld_cons (by simp) (noBld_cons (by simp) (noBld_cons (by simp) (noBld_quiet quietL_nil)))) (noBld_cons (by simp) (noBld_quiet quietL_nil)))
 refine ⟨_, rfl, ?_⟩
 intro a hA
 refine seq_do hA rfl rfl rfl (does_move rfl) ?_
 intro a hA
 refine seq_do (v := .slice so24 ((cpR l fr m ap n).1.length) ca25) hA rfl rfl rfl (does_extract (vs := [.slice so24 ((cpR l fr m ap n).1.length) ca25, .int .i64 ((cpR l fr m ap n).2)]) rfl rfl) ?_
 intro a hA
 refine seq_do (v := .int .i64 ((cpR l fr m ap n).2)) hA rfl rfl rfl (does_extract (vs := [.slice so24 ((cpR l fr m ap n).1.length) ca25, .int .i64 ((cpR l fr m ap n).2)]) rfl rfl) ?_
 intro a hA
 refine seq_do hA rfl rfl rfl (does_assign rfl) ?_
 intro a hA
 refine seq_do hA rfl rfl rfl (does_assign rfl) ?_
 intro a hA
 refine seq_end ?_
 refine hK21 _ _ ?_
 refine wp_seq_k (fun K27 hK27 => ?_)
 refine wp_region_lit ?_
 refine seq_do hA rfl rfl rfl (does_move rfl) ?_
 intro a hA
 refine seq_do hA rfl rfl rfl (does_move rfl) ?_
 intro a hA
 refine seq_do hA rfl rfl rfl (does_move rfl) ?_
 intro a hA
 refine seq_do hA rfl rfl rfl (does_move rfl) ?_
 intro a hA
 refine seq_do hA rfl rfl rfl (does_move rfl) ?_
 intro a hA
 refine seq_call hA rfl rfl rfl (enters_func rfl rfl (fun w => by kernel_rfl)) (copy_any (l := l) (m := l) (ca := ca8) (cb := ca8) (rb_row hM 3 rfl).1 (rb_row hM 3 rfl).1 hl hl (own_cap hM 3 rfl) (own_cap hM 3 rfl) hfr0 hfr1 hap0 hap1 hn0 hn1) ?_
 rintro _ w32 ⟨v28, rfl, hM29⟩
 obtain ⟨so30, ca31, rfl⟩ := owns_slice (hM29.has 0 rfl)
 replace hM : Mg w w32 (.row BY 1 (.slice so30 ((cpR l fr l ap n).1.length) ca31) ((cpR l fr l ap n).1.length) ((Lib.byteCells (cpR l fr l ap n).1)) :: .row BY 1 (.slice so24 ((cpR l fr m ap n).1.length) ca25) ((cpR l fr m ap n).1.length) ((Lib.byteCells (cpR l fr m ap n).1)) :: .row BY 1 (.slice so18 ((cpR l fr m ap n).1.length) ca19) ((cpR l fr m ap n).1.length) ((Lib.byteCells (cpR l fr m ap n).1)) :: .row BY 1 (.slice so13 m.length ca14) m.length ((Lib.byteCells m)) :: .row BY 1 (.slice so7 l.length ca8) l.length ((Lib.byteCells l)) :: []) := (hM.both hM29 (noBld_cons (by simp) (noBld_cons (by simp) (noBld_cons (by simp) (noBld_cons (by simp) (noBld_quiet quietL_nil))))) (noBld_cons (by simp) (noBld_quiet quietL_nil)))
 refine ⟨_, rfl, ?_⟩
 intro a hA
 refine seq_do hA rfl rfl rfl (does_move rfl) ?_
 intro a hA
 refine seq_do (v := .slice so30 ((cpR l fr l ap n).1.length) ca31) hA rfl rfl rfl (does_extract (vs := [.slice so30 ((cpR l fr l ap n).1.length) ca31, .int .i64 ((cpR l fr l ap n).2)]) rfl rfl) ?_
 intro a hA
 refine seq_do (v := .int .i64 ((cpR l fr l ap n).2)) hA rfl rfl rfl (does_extract (vs := [.slice so30 ((cpR l fr l ap n).1.length) ca31, .int .i64 ((cpR l fr l ap n).2)]) rfl rfl) ?_
 intro a hA
 refine seq_do hA rfl rfl rfl (does_assign rfl) ?_
 intro a hA
 refine seq_do hA rfl rfl rfl (does_assign rfl) ?_
 intro a hA
 refine seq_end ?_
 refine hK27 _ _ ?_
 refine wp_seq_k (fun K33 hK33 => ?_)
 refine wp_region_lit ?_
 refine seq_do hA rfl rfl rfl (does_move rfl) ?_
 intro a hA
 refine seq_do hA rfl rfl rfl (does_move rfl) ?_
 intro a hA
 refine seq_do hA rfl rfl rfl (does_move rfl) ?_
 intro a hA
 refine seq_do hA rfl rfl rfl (does_move rfl) ?_
 intro a hA
 refine seq_do hA rfl rfl rfl (does_move rfl) ?_
 intro a hA
 refine seq_call hA rfl rfl rfl (enters_func rfl rfl (fun w => by kernel_rfl)) (rcopyB_any (l := l) (m := l) (ca := ca) (cb := ca) (hA9.below hM.bel) (hA9.below hM.bel) hl hl hca hca hfr0 hfr1 hap0 hap1 hn0 hn1) ?_
 rintro _ w38 ⟨v34, rfl, hM35⟩
 obtain ⟨so36, ca37, rfl⟩ := owns_slice (hM35.has 0 rfl)
 replace hM : Mg w w38 (.row BY 1 (.slice so36 ((cpR l fr l ap n).1.length) ca37) ((cpR l fr l ap n).1.length) ((Lib.byteCells (cpR l fr l ap n).1)) :: .row BY 1 (.slice so30 ((cpR l fr l ap n).1.length) ca31) ((cpR l fr l ap n).1.length) ((Lib.byteCells (cpR l fr l ap n).1)) :: .row BY 1 (.slice so24 ((cpR l fr m ap n).1.length) ca25) ((cpR l fr m ap n).1.length) ((Lib.byteCells (cpR l fr m ap n).1)) :: .row BY 1 (.slice so18 ((cpR l fr m ap n).1.length) ca19) ((cpR l fr m ap n).1.length) ((Lib.byteCells (cpR l fr m ap n).1)) :: .row BY 1 (.slice so13 m.length ca14) m.length ((Lib.byteCells m)) :: .row BY 1 (.slice so7 l.length ca8) l.length ((Lib.byteCells l)) :: []) := (hM.both hM35 (noBld_cons (by simp) (noBld_cons (by simp) (noBld_cons (by simp) (noBld_cons (by simp) (noBld_cons (by simp) (noBld_quiet quietL_nil)))))) (noBld_cons (by simp) (noBld_quiet quietL_nil)))
 refine ⟨_, rfl, ?_⟩
 intro a hA
 refine seq_do hA rfl rfl rfl (does_move rfl) ?_
 intro a hA
 refine seq_do (v := .slice so36 ((cpR l fr l ap n).1.length) ca37) hA rfl rfl rfl (does_extract (vs := [.slice so36 ((cpR l fr l ap n).1.length) ca37, .int .i64 ((cpR l fr l ap n).2)]) rfl rfl) ?_
 intro a hA
 refine seq_do (v := .int .i64 ((cpR l fr l ap n).2)) hA rfl rfl rfl (does_extract (vs := [.slice so36 ((cpR l fr l ap n).1.length) ca37, .int .i64 ((cpR l fr l ap n).2)]) rfl rfl) ?_
 intro a hA
 refine seq_do hA rfl rfl rfl (does_assign rfl) ?_
 intro a hA
 refine seq_do hA rfl rfl rfl (does_assign rfl) ?_
 intro a hA
 refine seq_end ?_
 refine hK33 _ _ ?_
 refine wp_seq_k (fun K39 hK39 => ?_)
 refine wp_region_lit ?_
 refine seq_call hA rfl rfl rfl (enters_func rfl rfl (fun w => by kernel_rfl)) (awake5_any) ?_
 rintro _ w41 ⟨rfl, hb40⟩
 replace hM := hM.call hb40
 refine ⟨_, rfl, ?_⟩
 intro a hA
 refine seq_do hA rfl rfl rfl (does_move rfl) ?_
 intro a hA
 refine seq_do hA rfl rfl rfl (does_move rfl) ?_
 intro a hA
 refine seq_do hA rfl rfl rfl (does_move rfl) ?_
 intro a hA
 refine seq_call hA rfl rfl rfl (enters_func rfl rfl (fun w => by kernel_rfl)) (same_as (xs := (cpR l fr m ap n).1) (ys := (cpR l fr m ap n).1) (ca := ca19) (cb := ca25) (b := true) (rb_row hM 3 rfl).1 (rb_row hM 2 rfl).1 (Nat.le_trans cpR_le hm) (decide_eq_true rfl)) ?_
 rintro _ w43 ⟨rfl, hb42⟩
 replace hM := hM.call hb42
 refine ⟨_, rfl, ?_⟩
 intro a hA
 refine seq_do (v := .bool true) hA rfl rfl rfl (does_pick rfl rfl rfl rfl) ?_
 intro a hA
 refine seq_do hA rfl rfl rfl (does_move rfl) ?_
 intro a hA
 refine seq_do hA rfl rfl rfl (does_move rfl) ?_
 intro a hA
 refine seq_do hA rfl rfl rfl (does_move rfl) ?_
 intro a hA
 refine seq_do (v := .bool true) hA rfl rfl rfl (does_bin rfl rfl (fun w => (bin_eql w).trans (by rw [show (((cpR l fr m ap n).2 == (cpR l fr m ap n).2)) = true from by simp]))) ?_
 intro a hA
 refine seq_do (v := .bool true) hA rfl rfl rfl (does_pick rfl rfl rfl rfl) ?_
 intro a hA
 refine seq_do hA rfl rfl rfl (does_move rfl) ?_
 intro a hA
 refine seq_do hA rfl rfl rfl (does_move rfl) ?_
 intro a hA
 refine seq_do hA rfl rfl rfl (does_move rfl) ?_
 intro a hA
 refine seq_call hA rfl rfl rfl (enters_func rfl rfl (fun w => by kernel_rfl)) (same_as (xs := (cpR l fr l ap n).1) (ys := (cpR l fr l ap n).1) (ca := ca31) (cb := ca37) (b := true) (rb_row hM 1 rfl).1 (rb_row hM 0 rfl).1 (Nat.le_trans cpR_le hl) (decide_eq_true rfl)) ?_
 rintro _ w45 ⟨rfl, hb44⟩
 replace hM := hM.call hb44
 refine ⟨_, rfl, ?_⟩
 intro a hA
 refine seq_do (v := .bool true) hA rfl rfl rfl (does_pick rfl rfl rfl rfl) ?_
 intro a hA
 refine seq_do hA rfl rfl rfl (does_move rfl) ?_
 intro a hA
 refine seq_do hA rfl rfl rfl (does_move rfl) ?_
 intro a hA
 refine seq_do hA rfl rfl rfl (does_move rfl) ?_
 intro a hA
 refine seq_do (v := .bool true) hA rfl rfl rfl (does_bin rfl rfl (fun w => (bin_eql w).trans (by rw [show (((cpR l fr l ap n).2 == (cpR l fr l ap n).2)) = true from by simp]))) ?_
 intro a hA
 refine seq_do (v := .bool true) hA rfl rfl rfl (does_pick rfl rfl rfl rfl) ?_
 intro a hA
 refine seq_do hA rfl rfl rfl (does_move rfl) ?_
 intro a hA
 refine seq_do hA rfl rfl rfl (does_move rfl) ?_
 intro a hA
 refine seq_do hA rfl rfl rfl (does_move rfl) ?_
 intro a hA
 refine seq_call hA rfl rfl rfl (enters_func rfl rfl (fun w => by kernel_rfl)) (same_as (xs := l) (ys := l) (ca := ca8) (cb := ca) (b := true) (rb_row hM 5 rfl).1 (hA9.below hM.bel) hl (decide_eq_true rfl)) ?_
 rintro _ w47 ⟨rfl, hb46⟩
 replace hM := hM.call hb46
 refine ⟨_, rfl, ?_⟩
 intro a hA
 refine seq_do (v := .bool true) hA rfl rfl rfl (does_pick rfl rfl rfl rfl) ?_
 intro a hA
 refine seq_do hA rfl rfl rfl (does_move rfl) ?_
 intro a hA
 refine seq_do hA rfl rfl rfl (does_move rfl) ?_
 intro a hA
 refine seq_do hA rfl rfl rfl (does_move rfl) ?_
 intro a hA
 refine seq_call hA rfl rfl rfl (enters_func rfl rfl (fun w => by kernel_rfl)) (same_as (xs := m) (ys := m) (ca := ca14) (cb := cb) (b := true) (rb_row hM 4 rfl).1 (hB.below hM.bel) hm (decide_eq_true rfl)) ?_
 rintro _ w49 ⟨rfl, hb48⟩
 replace hM := hM.call hb48
 refine ⟨_, rfl, ?_⟩
 intro a hA
 refine seq_do (v := .bool true) hA rfl rfl rfl (does_pick rfl rfl rfl rfl) ?_
 intro a hA
 refine seq_do hA rfl rfl rfl (does_assign rfl) ?_
 intro a hA
 refine seq_end ?_
 refine hK39 _ _ ?_
 refine wp_ret ?_
 refine hret _ _ ?_
 refine ends (v := .bool true) hA rfl (.cons (res_tmp rfl) .nil) rfl ?_
 exact ⟨rfl, hM.bel⟩
end Go.Proofs.YtoeofpncdchicaaDoor.G
namespace Go.Proofs.YtoeofpncdchicaaDoor.G
open Go.ChangeShapes Go.WideShapes Go.ChangeAt Go.RowKit Go.Joins Go.Deep
set_option linter.unusedVariables false
set_option linter.unusedSimpArgs false
set_option maxRecDepth 100000

section
variable {H : Type} {enc : TypeId × Value → H} {W : World}
end
end Go.Proofs.YtoeofpncdchicaaDoor.G
namespace Go.Proofs.YtoeofpncdchicaaDoor.G
open Go.ChangeShapes Go.WideShapes Go.ChangeAt Go.RowKit Go.Joins Go.Deep
set_option linter.unusedVariables false
set_option linter.unusedSimpArgs false
set_option maxRecDepth 100000

theorem bytes_row {w : World} {x : Addr} {len cap : Nat} {zs : List Int} (hl : len ≤ cap) (hz : zs.length = cap)
    (hc : ∀ i, i < zs.length → w.cell? (x.add i) = some (.int .u8 (zs.getD i 0))) (hw : ∀ n ∈ zs, (Lit.int .u8 n).wf = true) :
    ∃ l : List UInt8, l.length = len ∧ Rb w (some x) l := by
  have hbd : ∀ n ∈ zs, 0 ≤ n ∧ n < 256 := by
    intro n hn
    have := bounds_u8 (hw n hn)
    omega
  refine ⟨(zs.take len).map b8, by rw [List.length_map, List.length_take]; omega, ⟨fun hne => ?_⟩⟩
  have hlen : ((zs.take len).map b8).length = len := by rw [List.length_map, List.length_take]; omega
  have h0 : 0 < len := by
    apply Classical.byContradiction
    intro h
    have : len = 0 := by omega
    subst this
    simp at hne
  obtain ⟨b, off, spot⟩ := x
  have hspot : spot = none := by
    have := hc 0 (by omega)
    simp only [World.cell?, Addr.add] at this
    split at this
    · cases spot with
      | none => rfl
      | some s => simp at this
    · cases this
  subst hspot
  have hcj : ∀ j, j < len → w.cell? ⟨b, off + j, none⟩ = some (.int .u8 (((((zs.take len).map b8).getD j 0).toNat : Nat) : Int)) := by
    intro j hj
    have h1 := hc j (by omega)
    rw [Addr.add_lit] at h1
    rw [h1]
    have hjz : j < zs.length := by omega
    have h2 := hbd zs[j] (List.getElem_mem hjz)
    have e1 : zs.getD j 0 = zs[j] := by simp [hjz]
    have e2 : ((zs.take len).map b8).getD j 0 = b8 zs[j] := by simp [List.getD_eq_getElem?_getD, hj, hjz]
    rw [e1, e2, b8_val h2.1 h2.2]
  refine ⟨b, off, rfl, ?_, fun j hj => hcj j (by omega)⟩
  have := hcj 0 h0
  apply Classical.byContradiction
  intro h
  simp [World.cell?, Array.getElem?_eq_none (Nat.le_of_not_lt h)] at this
section
variable {H : Type} {enc : TypeId × Value → H} {W : World}
end
theorem Rb.take {w : World} {so : Option Addr} {l : List UInt8} (h : Rb w so l) (n : Nat) : Rb w so (l.take n) := by
  refine ⟨fun hne => ?_⟩
  obtain ⟨b, off, h1, h2, h3⟩ := h.pos (fun k => hne (by rw [k]; simp))
  refine ⟨b, off, h1, h2, fun j hj => ?_⟩
  rw [List.length_take] at hj
  rw [h3 j (by omega), List.getD_eq_getElem?_getD, List.getD_eq_getElem?_getD, List.getElem?_take_of_lt (by omega)]
section
variable {P : Program} {w : World} {l : List (Nat × Value)} {dst : Option Tmp} {ty : TypeId} {pos : String} {after : Array Edge} {guard : Option (Nat × Bool)}
end
end Go.Proofs.YtoeofpncdchicaaDoor.G
