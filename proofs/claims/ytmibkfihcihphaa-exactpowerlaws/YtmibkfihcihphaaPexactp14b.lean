/- Walks of Add, Sub, Mul, Div. Operators on texts. Walks of the text of minus three halves, and of the fixed fact. The numbers are a field. Walks of the law of the field. Quotients of whole numbers, downwards, and the order of rational ones. Walks of the order and the quotients of real numbers. Walks of Cmp and of the quotients. Walks of divMod and DivMod. Walks of DivMod. Quotient and rest of real numbers. DivMod of any numbers. Facts of the order of real numbers. Walks of the law of the order. Powers of numbers. Walks of the powers. Walks of Expt. -/
import Derived.Test.YtmibkfihcihphaaPexactp14a
import Derived.Test.YtmibkfihcihphaaTxtD
namespace Go.Proofs.Ytmibkfihcihphaa
open Go.RowKit
set_option linter.unusedVariables false
set_option linter.unusedSimpArgs false
set_option maxRecDepth 100000
theorem ExL_isS_26 : IsS Try.prog 26 6 := ⟨⟨_, Try.underlying26⟩, by kernel_rfl⟩
theorem neg_len {x : Int} {k : Nat} (h : (words x.natAbs).length ≤ k) : (words (-x).natAbs).length ≤ k := by rw [Int.natAbs_neg]; exact h
theorem reckonE1_any {F : FuncId} {w : World} {p q : Q6} {a1 a2 a3 a4 : Option Addr} {ac1 ac2 ac3 ac4 : Nat} (ha : Nm w p a1 ac1 a2 ac2 a3 ac3 a4 ac4) (hl : LenQ p) {u1 u2 u3 u4 : Option Addr} {uc1 uc2 uc3 uc4 : Nat} (hb : Nm w q u1 uc1 u2 uc2 u3 uc3 u4 uc4) (hm : LenQ q) (h1 : soundQ p = false) : Calls Try.prog 30 #[.func (.func F) #[] #[], numV p a1 ac1 a2 ac2 a3 ac3 a4 ac4, numV q u1 uc1 u2 uc2 u3 uc3 u4 uc4] w (AnsN w (Q6.zero, 2)) := by
  have hS : St w w [] [(u4, q.q2), (u3, q.t2), (u2, q.q1), (u1, q.t1), (a4, p.q2), (a3, p.t2), (a2, p.q1), (a1, p.t1)] [] := ((((((((St.start w).addR ha.s1.rd).addR ha.s2.rd).addR ha.s3.rd).addR ha.s4.rd).addR hb.s1.rd).addR hb.s2.rd).addR hb.s3.rd).addR hb.s4.rd
  refine walk_of (l := [(0, .func (.func F) #[] #[]), (1, .agg #[.bool p.b1, .slice a1 p.t1.length ac1, .slice a2 p.q1.length ac2, .bool p.b2, .slice a3 p.t2.length ac3, .slice a4 p.q2.length ac4]), (2, .agg #[.bool q.b1, .slice u1 q.t1.length uc1, .slice u2 q.q1.length uc2, .bool q.b2, .slice u3 q.t2.length uc3, .slice u4 q.q2.length uc4])]) Try.func30 rfl Try.ntmps30 rfl rfl ?_
  intro Q hret hnorm hP a hA
  refine wp_seq_k (fun K1 hK1 => ?_)
  refine wp_region_lit ?_
  refine seq_new (vs := [.bool p.b1, .slice a1 p.t1.length ac1, .slice a2 p.q1.length ac2, .bool p.b2, .slice a3 p.t2.length ac3, .slice a4 p.q2.length ac4]) (t := 26) hA hS rfl rfl rfl (fun g => .pointer (some ⟨g, 0, none⟩)) (does_box rfl rfl) rfl ?_
  intro g2 w3 hS a hA
  refine seq_new (vs := [.bool q.b1, .slice u1 q.t1.length uc1, .slice u2 q.q1.length uc2, .bool q.b2, .slice u3 q.t2.length uc3, .slice u4 q.q2.length uc4]) (t := 26) hA hS rfl rfl rfl (fun g => .pointer (some ⟨g, 0, none⟩)) (does_box rfl rfl) rfl ?_
  intro g4 w5 hS a hA
  refine seq_new (vs := [.bool false, .slice none 0 0, .slice none 0 0, .bool false, .slice none 0 0, .slice none 0 0]) (t := 26) hA hS rfl rfl rfl (fun g => .pointer (some ⟨g, 0, none⟩)) (does_alloc (z := .agg #[.bool false, .slice none 0 0, .slice none 0 0, .bool false, .slice none 0 0, .slice none 0 0]) (by kernel_rfl) rfl) rfl ?_
  intro g6 w7 hS a hA
  refine seq_do hA rfl rfl rfl (does_assign rfl) ?_
  intro a hA
  refine seq_end ?_
  refine hK1 _ _ ?_
  refine wp_seq_k (fun K8 hK8 => ?_)
  refine wp_seq_k (fun K9 hK9 => ?_)
  refine wp_region_lit ?_
  refine seq_do (v := .agg #[.bool p.b1, .slice a1 p.t1.length ac1, .slice a2 p.q1.length ac2, .bool p.b2, .slice a3 p.t2.length ac3, .slice a4 p.q2.length ac4]) hA rfl rfl rfl (does_loadS hS ExL_isS_26 rfl 2 rfl (cs := [.bool p.b1, .slice a1 p.t1.length ac1, .slice a2 p.q1.length ac2, .bool p.b2, .slice a3 p.t2.length ac3, .slice a4 p.q2.length ac4]) rfl rfl) ?_
  intro a hA
  refine seq_call hA rfl rfl rfl (enters_func  rfl rfl (fun w => by kernel_rfl)) (soundQ_any (show Nm _ p a1 ac1 a2 ac2 a3 ac3 a4 ac4 from ⟨⟨(hS.rd 7 rfl), ha.s1.nil, ha.s1.cap⟩, ⟨(hS.rd 6 rfl), ha.s2.nil, ha.s2.cap⟩, ⟨(hS.rd 5 rfl), ha.s3.nil, ha.s3.cap⟩, ⟨(hS.rd 4 rfl), ha.s4.nil, ha.s4.cap⟩⟩) hl h1) ?_
  rintro _ w11 ⟨rfl, hb10⟩
  replace hS := hS.call hb10
  refine ⟨_, rfl, ?_⟩
  intro a hA
  refine seq_do (v := .bool true) hA rfl rfl rfl (does_un rfl un_not) ?_
  intro a hA
  refine seq_do hA rfl rfl rfl (does_move rfl) ?_
  intro a hA
  refine seq_skip hA rfl rfl rfl ?_
  intro a hA
  refine seq_skip hA rfl rfl rfl ?_
  intro a hA
  refine seq_skip hA rfl rfl rfl ?_
  intro a hA
  refine seq_do (v := .bool true) hA rfl rfl rfl (does_pick rfl rfl rfl rfl) ?_
  intro a hA
  refine seq_end ?_
  refine hK9 _ _ ?_
  refine wp_cond_true (hA.ev rfl) ?_
  refine wp_seq_k (fun K12 hK12 => ?_)
  refine wp_region_lit ?_
  refine seq_do (v := .agg #[.bool false, .slice none 0 0, .slice none 0 0, .bool false, .slice none 0 0, .slice none 0 0]) hA rfl rfl rfl (does_build rfl (fun w => by kernel_rfl)) ?_
  intro a hA
  refine seq_store (us := [.bool false, .slice none 0 0, .slice none 0 0, .bool false, .slice none 0 0, .slice none 0 0]) hA hS rfl rfl (sets_store (cs := [.bool false, .slice none 0 0, .slice none 0 0, .bool false, .slice none 0 0, .slice none 0 0]) rfl rfl rfl (by kernel_rfl) hS 0 rfl rfl rfl) 0 rfl rfl rfl rfl ?_
  intro w13 hS
  refine seq_do hA rfl rfl rfl (does_assign rfl) ?_
  intro a hA
  refine seq_end ?_
  refine hK12 _ _ ?_
  refine wp_ret ?_
  refine hret _ _ ?_
  refine ends (v := .tuple #[.agg #[.bool false, .slice none 0 0, .slice none 0 0, .bool false, .slice none 0 0, .slice none 0 0], .int .i64 2]) hA rfl (.cons (res_cell hS ExL_isS_26 rfl 0 rfl (cs := [.bool false, .slice none 0 0, .slice none 0 0, .bool false, .slice none 0 0, .slice none 0 0]) rfl rfl) (.cons (res_tmp rfl) .nil)) rfl ?_
  exact ⟨none, 0, none, 0, none, 0, none, 0, rfl, ⟨(Sc.none _), (Sc.none _), (Sc.none _), (Sc.none _)⟩, hS.bel⟩
theorem reckonE2_any {F : FuncId} {w : World} {p q : Q6} {a1 a2 a3 a4 : Option Addr} {ac1 ac2 ac3 ac4 : Nat} (ha : Nm w p a1 ac1 a2 ac2 a3 ac3 a4 ac4) (hl : LenQ p) {u1 u2 u3 u4 : Option Addr} {uc1 uc2 uc3 uc4 : Nat} (hb : Nm w q u1 uc1 u2 uc2 u3 uc3 u4 uc4) (hm : LenQ q) (h1 : soundQ p = true) (h2 : soundQ q = false) : Calls Try.prog 30 #[.func (.func F) #[] #[], numV p a1 ac1 a2 ac2 a3 ac3 a4 ac4, numV q u1 uc1 u2 uc2 u3 uc3 u4 uc4] w (AnsN w (Q6.zero, 2)) := by
  have hS : St w w [] [(u4, q.q2), (u3, q.t2), (u2, q.q1), (u1, q.t1), (a4, p.q2), (a3, p.t2), (a2, p.q1), (a1, p.t1)] [] := ((((((((St.start w).addR ha.s1.rd).addR ha.s2.rd).addR ha.s3.rd).addR ha.s4.rd).addR hb.s1.rd).addR hb.s2.rd).addR hb.s3.rd).addR hb.s4.rd
  refine walk_of (l := [(0, .func (.func F) #[] #[]), (1, .agg #[.bool p.b1, .slice a1 p.t1.length ac1, .slice a2 p.q1.length ac2, .bool p.b2, .slice a3 p.t2.length ac3, .slice a4 p.q2.length ac4]), (2, .agg #[.bool q.b1, .slice u1 q.t1.length uc1, .slice u2 q.q1.length uc2, .bool q.b2, .slice u3 q.t2.length uc3, .slice u4 q.q2.length uc4])]) Try.func30 rfl Try.ntmps30 rfl rfl ?_
  intro Q hret hnorm hP a hA
  refine wp_seq_k (fun K1 hK1 => ?_)
  refine wp_region_lit ?_
  refine seq_new (vs := [.bool p.b1, .slice a1 p.t1.length ac1, .slice a2 p.q1.length ac2, .bool p.b2, .slice a3 p.t2.length ac3, .slice a4 p.q2.length ac4]) (t := 26) hA hS rfl rfl rfl (fun g => .pointer (some ⟨g, 0, none⟩)) (does_box rfl rfl) rfl ?_
  intro g2 w3 hS a hA
  refine seq_new (vs := [.bool q.b1, .slice u1 q.t1.length uc1, .slice u2 q.q1.length uc2, .bool q.b2, .slice u3 q.t2.length uc3, .slice u4 q.q2.length uc4]) (t := 26) hA hS rfl rfl rfl (fun g => .pointer (some ⟨g, 0, none⟩)) (does_box rfl rfl) rfl ?_
  intro g4 w5 hS a hA
  refine seq_new (vs := [.bool false, .slice none 0 0, .slice none 0 0, .bool false, .slice none 0 0, .slice none 0 0]) (t := 26) hA hS rfl rfl rfl (fun g => .pointer (some ⟨g, 0, none⟩)) (does_alloc (z := .agg #[.bool false, .slice none 0 0, .slice none 0 0, .bool false, .slice none 0 0, .slice none 0 0]) (by kernel_rfl) rfl) rfl ?_
  intro g6 w7 hS a hA
  refine seq_do hA rfl rfl rfl (does_assign rfl) ?_
  intro a hA
  refine seq_end ?_
  refine hK1 _ _ ?_
  refine wp_seq_k (fun K8 hK8 => ?_)
  refine wp_seq_k (fun K9 hK9 => ?_)
  refine wp_region_lit ?_
  refine seq_do (v := .agg #[.bool p.b1, .slice a1 p.t1.length ac1, .slice a2 p.q1.length ac2, .bool p.b2, .slice a3 p.t2.length ac3, .slice a4 p.q2.length ac4]) hA rfl rfl rfl (does_loadS hS ExL_isS_26 rfl 2 rfl (cs := [.bool p.b1, .slice a1 p.t1.length ac1, .slice a2 p.q1.length ac2, .bool p.b2, .slice a3 p.t2.length ac3, .slice a4 p.q2.length ac4]) rfl rfl) ?_
  intro a hA
  refine seq_call hA rfl rfl rfl (enters_func  rfl rfl (fun w => by kernel_rfl)) (soundQ_any (show Nm _ p a1 ac1 a2 ac2 a3 ac3 a4 ac4 from ⟨⟨(hS.rd 7 rfl), ha.s1.nil, ha.s1.cap⟩, ⟨(hS.rd 6 rfl), ha.s2.nil, ha.s2.cap⟩, ⟨(hS.rd 5 rfl), ha.s3.nil, ha.s3.cap⟩, ⟨(hS.rd 4 rfl), ha.s4.nil, ha.s4.cap⟩⟩) hl h1) ?_
  rintro _ w11 ⟨rfl, hb10⟩
  replace hS := hS.call hb10
  refine ⟨_, rfl, ?_⟩
  intro a hA
  refine seq_do (v := .bool false) hA rfl rfl rfl (does_un rfl un_not) ?_
  intro a hA
  refine seq_do hA rfl rfl rfl (does_move rfl) ?_
  intro a hA
  refine seq_do (v := .agg #[.bool q.b1, .slice u1 q.t1.length uc1, .slice u2 q.q1.length uc2, .bool q.b2, .slice u3 q.t2.length uc3, .slice u4 q.q2.length uc4]) hA rfl rfl rfl (does_loadS hS ExL_isS_26 rfl 1 rfl (cs := [.bool q.b1, .slice u1 q.t1.length uc1, .slice u2 q.q1.length uc2, .bool q.b2, .slice u3 q.t2.length uc3, .slice u4 q.q2.length uc4]) rfl rfl) ?_
  intro a hA
  refine seq_call hA rfl rfl rfl (enters_func  rfl rfl (fun w => by kernel_rfl)) (soundQ_any (show Nm _ q u1 uc1 u2 uc2 u3 uc3 u4 uc4 from ⟨⟨(hS.rd 3 rfl), hb.s1.nil, hb.s1.cap⟩, ⟨(hS.rd 2 rfl), hb.s2.nil, hb.s2.cap⟩, ⟨(hS.rd 1 rfl), hb.s3.nil, hb.s3.cap⟩, ⟨(hS.rd 0 rfl), hb.s4.nil, hb.s4.cap⟩⟩) hm h2) ?_
  rintro _ w13 ⟨rfl, hb12⟩
  replace hS := hS.call hb12
  refine ⟨_, rfl, ?_⟩
  intro a hA
  refine seq_do (v := .bool true) hA rfl rfl rfl (does_un rfl un_not) ?_
  intro a hA
  refine seq_do (v := .bool true) hA rfl rfl rfl (does_pick rfl rfl rfl rfl) ?_
  intro a hA
  refine seq_end ?_
  refine hK9 _ _ ?_
  refine wp_cond_true (hA.ev rfl) ?_
  refine wp_seq_k (fun K14 hK14 => ?_)
  refine wp_region_lit ?_
  refine seq_do (v := .agg #[.bool false, .slice none 0 0, .slice none 0 0, .bool false, .slice none 0 0, .slice none 0 0]) hA rfl rfl rfl (does_build rfl (fun w => by kernel_rfl)) ?_
  intro a hA
  refine seq_store (us := [.bool false, .slice none 0 0, .slice none 0 0, .bool false, .slice none 0 0, .slice none 0 0]) hA hS rfl rfl (sets_store (cs := [.bool false, .slice none 0 0, .slice none 0 0, .bool false, .slice none 0 0, .slice none 0 0]) rfl rfl rfl (by kernel_rfl) hS 0 rfl rfl rfl) 0 rfl rfl rfl rfl ?_
  intro w15 hS
  refine seq_do hA rfl rfl rfl (does_assign rfl) ?_
  intro a hA
  refine seq_end ?_
  refine hK14 _ _ ?_
  refine wp_ret ?_
  refine hret _ _ ?_
  refine ends (v := .tuple #[.agg #[.bool false, .slice none 0 0, .slice none 0 0, .bool false, .slice none 0 0, .slice none 0 0], .int .i64 2]) hA rfl (.cons (res_cell hS ExL_isS_26 rfl 0 rfl (cs := [.bool false, .slice none 0 0, .slice none 0 0, .bool false, .slice none 0 0, .slice none 0 0]) rfl rfl) (.cons (res_tmp rfl) .nil)) rfl ?_
  exact ⟨none, 0, none, 0, none, 0, none, 0, rfl, ⟨(Sc.none _), (Sc.none _), (Sc.none _), (Sc.none _)⟩, hS.bel⟩
theorem divE1_any {w : World} {p q : Q6} {a1 a2 a3 a4 : Option Addr} {ac1 ac2 ac3 ac4 : Nat} (ha : Nm w p a1 ac1 a2 ac2 a3 ac3 a4 ac4) (hl : LenQ p) {u1 u2 u3 u4 : Option Addr} {uc1 uc2 uc3 uc4 : Nat} (hb : Nm w q u1 uc1 u2 uc2 u3 uc3 u4 uc4) (hm : LenQ q) (h1 : soundQ p = false) : Calls Try.prog 28 #[numV p a1 ac1 a2 ac2 a3 ac3 a4 ac4, numV q u1 uc1 u2 uc2 u3 uc3 u4 uc4] w (AnsN w (Q6.zero, 2)) := by
  have hS : St w w [] [(u4, q.q2), (u3, q.t2), (u2, q.q1), (u1, q.t1), (a4, p.q2), (a3, p.t2), (a2, p.q1), (a1, p.t1)] [] := ((((((((St.start w).addR ha.s1.rd).addR ha.s2.rd).addR ha.s3.rd).addR ha.s4.rd).addR hb.s1.rd).addR hb.s2.rd).addR hb.s3.rd).addR hb.s4.rd
  refine walk_of (l := [(0, .agg #[.bool p.b1, .slice a1 p.t1.length ac1, .slice a2 p.q1.length ac2, .bool p.b2, .slice a3 p.t2.length ac3, .slice a4 p.q2.length ac4]), (1, .agg #[.bool q.b1, .slice u1 q.t1.length uc1, .slice u2 q.q1.length uc2, .bool q.b2, .slice u3 q.t2.length uc3, .slice u4 q.q2.length uc4])]) Try.func28 rfl Try.ntmps28 rfl rfl ?_
  intro Q hret hnorm hP a hA
  refine wp_seq_k (fun K1 hK1 => ?_)
  refine wp_region_lit ?_
  refine seq_new (vs := [.bool p.b1, .slice a1 p.t1.length ac1, .slice a2 p.q1.length ac2, .bool p.b2, .slice a3 p.t2.length ac3, .slice a4 p.q2.length ac4]) (t := 26) hA hS rfl rfl rfl (fun g => .pointer (some ⟨g, 0, none⟩)) (does_box rfl rfl) rfl ?_
  intro g2 w3 hS a hA
  refine seq_new (vs := [.bool q.b1, .slice u1 q.t1.length uc1, .slice u2 q.q1.length uc2, .bool q.b2, .slice u3 q.t2.length uc3, .slice u4 q.q2.length uc4]) (t := 26) hA hS rfl rfl rfl (fun g => .pointer (some ⟨g, 0, none⟩)) (does_box rfl rfl) rfl ?_
  intro g4 w5 hS a hA
  refine seq_new (vs := [.bool false, .slice none 0 0, .slice none 0 0, .bool false, .slice none 0 0, .slice none 0 0]) (t := 26) hA hS rfl rfl rfl (fun g => .pointer (some ⟨g, 0, none⟩)) (does_alloc (z := .agg #[.bool false, .slice none 0 0, .slice none 0 0, .bool false, .slice none 0 0, .slice none 0 0]) (by kernel_rfl) rfl) rfl ?_
  intro g6 w7 hS a hA
  refine seq_do hA rfl rfl rfl (does_assign rfl) ?_
  intro a hA
  refine seq_end ?_
  refine hK1 _ _ ?_
  refine wp_seq_k (fun K8 hK8 => ?_)
  refine wp_seq_k (fun K9 hK9 => ?_)
  refine wp_region_lit ?_
  refine seq_do (v := .agg #[.bool p.b1, .slice a1 p.t1.length ac1, .slice a2 p.q1.length ac2, .bool p.b2, .slice a3 p.t2.length ac3, .slice a4 p.q2.length ac4]) hA rfl rfl rfl (does_loadS hS ExL_isS_26 rfl 2 rfl (cs := [.bool p.b1, .slice a1 p.t1.length ac1, .slice a2 p.q1.length ac2, .bool p.b2, .slice a3 p.t2.length ac3, .slice a4 p.q2.length ac4]) rfl rfl) ?_
  intro a hA
  refine seq_call hA rfl rfl rfl (enters_func  rfl rfl (fun w => by kernel_rfl)) (soundQ_any (show Nm _ p a1 ac1 a2 ac2 a3 ac3 a4 ac4 from ⟨⟨(hS.rd 7 rfl), ha.s1.nil, ha.s1.cap⟩, ⟨(hS.rd 6 rfl), ha.s2.nil, ha.s2.cap⟩, ⟨(hS.rd 5 rfl), ha.s3.nil, ha.s3.cap⟩, ⟨(hS.rd 4 rfl), ha.s4.nil, ha.s4.cap⟩⟩) hl h1) ?_
  rintro _ w11 ⟨rfl, hb10⟩
  replace hS := hS.call hb10
  refine ⟨_, rfl, ?_⟩
  intro a hA
  refine seq_do (v := .bool true) hA rfl rfl rfl (does_un rfl un_not) ?_
  intro a hA
  refine seq_do hA rfl rfl rfl (does_move rfl) ?_
  intro a hA
  refine seq_skip hA rfl rfl rfl ?_
  intro a hA
  refine seq_skip hA rfl rfl rfl ?_
  intro a hA
  refine seq_skip hA rfl rfl rfl ?_
  intro a hA
  refine seq_do (v := .bool true) hA rfl rfl rfl (does_pick rfl rfl rfl rfl) ?_
  intro a hA
  refine seq_end ?_
  refine hK9 _ _ ?_
  refine wp_cond_true (hA.ev rfl) ?_
  refine wp_seq_k (fun K12 hK12 => ?_)
  refine wp_region_lit ?_
  refine seq_do (v := .agg #[.bool false, .slice none 0 0, .slice none 0 0, .bool false, .slice none 0 0, .slice none 0 0]) hA rfl rfl rfl (does_build rfl (fun w => by kernel_rfl)) ?_
  intro a hA
  refine seq_store (us := [.bool false, .slice none 0 0, .slice none 0 0, .bool false, .slice none 0 0, .slice none 0 0]) hA hS rfl rfl (sets_store (cs := [.bool false, .slice none 0 0, .slice none 0 0, .bool false, .slice none 0 0, .slice none 0 0]) rfl rfl rfl (by kernel_rfl) hS 0 rfl rfl rfl) 0 rfl rfl rfl rfl ?_
  intro w13 hS
  refine seq_do hA rfl rfl rfl (does_assign rfl) ?_
  intro a hA
  refine seq_end ?_
  refine hK12 _ _ ?_
  refine wp_ret ?_
  refine hret _ _ ?_
  refine ends (v := .tuple #[.agg #[.bool false, .slice none 0 0, .slice none 0 0, .bool false, .slice none 0 0, .slice none 0 0], .int .i64 2]) hA rfl (.cons (res_cell hS ExL_isS_26 rfl 0 rfl (cs := [.bool false, .slice none 0 0, .slice none 0 0, .bool false, .slice none 0 0, .slice none 0 0]) rfl rfl) (.cons (res_tmp rfl) .nil)) rfl ?_
  exact ⟨none, 0, none, 0, none, 0, none, 0, rfl, ⟨(Sc.none _), (Sc.none _), (Sc.none _), (Sc.none _)⟩, hS.bel⟩
theorem divE2_any {w : World} {p q : Q6} {a1 a2 a3 a4 : Option Addr} {ac1 ac2 ac3 ac4 : Nat} (ha : Nm w p a1 ac1 a2 ac2 a3 ac3 a4 ac4) (hl : LenQ p) {u1 u2 u3 u4 : Option Addr} {uc1 uc2 uc3 uc4 : Nat} (hb : Nm w q u1 uc1 u2 uc2 u3 uc3 u4 uc4) (hm : LenQ q) (h1 : soundQ p = true) (h2 : soundQ q = false) : Calls Try.prog 28 #[numV p a1 ac1 a2 ac2 a3 ac3 a4 ac4, numV q u1 uc1 u2 uc2 u3 uc3 u4 uc4] w (AnsN w (Q6.zero, 2)) := by
  have hS : St w w [] [(u4, q.q2), (u3, q.t2), (u2, q.q1), (u1, q.t1), (a4, p.q2), (a3, p.t2), (a2, p.q1), (a1, p.t1)] [] := ((((((((St.start w).addR ha.s1.rd).addR ha.s2.rd).addR ha.s3.rd).addR ha.s4.rd).addR hb.s1.rd).addR hb.s2.rd).addR hb.s3.rd).addR hb.s4.rd
  refine walk_of (l := [(0, .agg #[.bool p.b1, .slice a1 p.t1.length ac1, .slice a2 p.q1.length ac2, .bool p.b2, .slice a3 p.t2.length ac3, .slice a4 p.q2.length ac4]), (1, .agg #[.bool q.b1, .slice u1 q.t1.length uc1, .slice u2 q.q1.length uc2, .bool q.b2, .slice u3 q.t2.length uc3, .slice u4 q.q2.length uc4])]) Try.func28 rfl Try.ntmps28 rfl rfl ?_
  intro Q hret hnorm hP a hA
  refine wp_seq_k (fun K1 hK1 => ?_)
  refine wp_region_lit ?_
  refine seq_new (vs := [.bool p.b1, .slice a1 p.t1.length ac1, .slice a2 p.q1.length ac2, .bool p.b2, .slice a3 p.t2.length ac3, .slice a4 p.q2.length ac4]) (t := 26) hA hS rfl rfl rfl (fun g => .pointer (some ⟨g, 0, none⟩)) (does_box rfl rfl) rfl ?_
  intro g2 w3 hS a hA
  refine seq_new (vs := [.bool q.b1, .slice u1 q.t1.length uc1, .slice u2 q.q1.length uc2, .bool q.b2, .slice u3 q.t2.length uc3, .slice u4 q.q2.length uc4]) (t := 26) hA hS rfl rfl rfl (fun g => .pointer (some ⟨g, 0, none⟩)) (does_box rfl rfl) rfl ?_
  intro g4 w5 hS a hA
  refine seq_new (vs := [.bool false, .slice none 0 0, .slice none 0 0, .bool false, .slice none 0 0, .slice none 0 0]) (t := 26) hA hS rfl rfl rfl (fun g => .pointer (some ⟨g, 0, none⟩)) (does_alloc (z := .agg #[.bool false, .slice none 0 0, .slice none 0 0, .bool false, .slice none 0 0, .slice none 0 0]) (by kernel_rfl) rfl) rfl ?_
  intro g6 w7 hS a hA
  refine seq_do hA rfl rfl rfl (does_assign rfl) ?_
  intro a hA
  refine seq_end ?_
  refine hK1 _ _ ?_
  refine wp_seq_k (fun K8 hK8 => ?_)
  refine wp_seq_k (fun K9 hK9 => ?_)
  refine wp_region_lit ?_
  refine seq_do (v := .agg #[.bool p.b1, .slice a1 p.t1.length ac1, .slice a2 p.q1.length ac2, .bool p.b2, .slice a3 p.t2.length ac3, .slice a4 p.q2.length ac4]) hA rfl rfl rfl (does_loadS hS ExL_isS_26 rfl 2 rfl (cs := [.bool p.b1, .slice a1 p.t1.length ac1, .slice a2 p.q1.length ac2, .bool p.b2, .slice a3 p.t2.length ac3, .slice a4 p.q2.length ac4]) rfl rfl) ?_
  intro a hA
  refine seq_call hA rfl rfl rfl (enters_func  rfl rfl (fun w => by kernel_rfl)) (soundQ_any (show Nm _ p a1 ac1 a2 ac2 a3 ac3 a4 ac4 from ⟨⟨(hS.rd 7 rfl), ha.s1.nil, ha.s1.cap⟩, ⟨(hS.rd 6 rfl), ha.s2.nil, ha.s2.cap⟩, ⟨(hS.rd 5 rfl), ha.s3.nil, ha.s3.cap⟩, ⟨(hS.rd 4 rfl), ha.s4.nil, ha.s4.cap⟩⟩) hl h1) ?_
  rintro _ w11 ⟨rfl, hb10⟩
  replace hS := hS.call hb10
  refine ⟨_, rfl, ?_⟩
  intro a hA
  refine seq_do (v := .bool false) hA rfl rfl rfl (does_un rfl un_not) ?_
  intro a hA
  refine seq_do hA rfl rfl rfl (does_move rfl) ?_
  intro a hA
  refine seq_do (v := .agg #[.bool q.b1, .slice u1 q.t1.length uc1, .slice u2 q.q1.length uc2, .bool q.b2, .slice u3 q.t2.length uc3, .slice u4 q.q2.length uc4]) hA rfl rfl rfl (does_loadS hS ExL_isS_26 rfl 1 rfl (cs := [.bool q.b1, .slice u1 q.t1.length uc1, .slice u2 q.q1.length uc2, .bool q.b2, .slice u3 q.t2.length uc3, .slice u4 q.q2.length uc4]) rfl rfl) ?_
  intro a hA
  refine seq_call hA rfl rfl rfl (enters_func  rfl rfl (fun w => by kernel_rfl)) (soundQ_any (show Nm _ q u1 uc1 u2 uc2 u3 uc3 u4 uc4 from ⟨⟨(hS.rd 3 rfl), hb.s1.nil, hb.s1.cap⟩, ⟨(hS.rd 2 rfl), hb.s2.nil, hb.s2.cap⟩, ⟨(hS.rd 1 rfl), hb.s3.nil, hb.s3.cap⟩, ⟨(hS.rd 0 rfl), hb.s4.nil, hb.s4.cap⟩⟩) hm h2) ?_
  rintro _ w13 ⟨rfl, hb12⟩
  replace hS := hS.call hb12
  refine ⟨_, rfl, ?_⟩
  intro a hA
  refine seq_do (v := .bool true) hA rfl rfl rfl (does_un rfl un_not) ?_
  intro a hA
  refine seq_do (v := .bool true) hA rfl rfl rfl (does_pick rfl rfl rfl rfl) ?_
  intro a hA
  refine seq_end ?_
  refine hK9 _ _ ?_
  refine wp_cond_true (hA.ev rfl) ?_
  refine wp_seq_k (fun K14 hK14 => ?_)
  refine wp_region_lit ?_
  refine seq_do (v := .agg #[.bool false, .slice none 0 0, .slice none 0 0, .bool false, .slice none 0 0, .slice none 0 0]) hA rfl rfl rfl (does_build rfl (fun w => by kernel_rfl)) ?_
  intro a hA
  refine seq_store (us := [.bool false, .slice none 0 0, .slice none 0 0, .bool false, .slice none 0 0, .slice none 0 0]) hA hS rfl rfl (sets_store (cs := [.bool false, .slice none 0 0, .slice none 0 0, .bool false, .slice none 0 0, .slice none 0 0]) rfl rfl rfl (by kernel_rfl) hS 0 rfl rfl rfl) 0 rfl rfl rfl rfl ?_
  intro w15 hS
  refine seq_do hA rfl rfl rfl (does_assign rfl) ?_
  intro a hA
  refine seq_end ?_
  refine hK14 _ _ ?_
  refine wp_ret ?_
  refine hret _ _ ?_
  refine ends (v := .tuple #[.agg #[.bool false, .slice none 0 0, .slice none 0 0, .bool false, .slice none 0 0, .slice none 0 0], .int .i64 2]) hA rfl (.cons (res_cell hS ExL_isS_26 rfl 0 rfl (cs := [.bool false, .slice none 0 0, .slice none 0 0, .bool false, .slice none 0 0, .slice none 0 0]) rfl rfl) (.cons (res_tmp rfl) .nil)) rfl ?_
  exact ⟨none, 0, none, 0, none, 0, none, 0, rfl, ⟨(Sc.none _), (Sc.none _), (Sc.none _), (Sc.none _)⟩, hS.bel⟩
theorem reckonM_any {w : World} {u v x y : Rat} {a1 a2 a3 a4 : Option Addr} {ac1 ac2 ac3 ac4 : Nat} (ha : Nm w (Q6.rat u v) a1 ac1 a2 ac2 a3 ac3 a4 ac4) {u1 u2 u3 u4 : Option Addr} {uc1 uc2 uc3 uc4 : Nat} (hb : Nm w (Q6.rat x y) u1 uc1 u2 uc2 u3 uc3 u4 uc4) (hu : fitR u) (hv : fitR v) (hx : fitR x) (hy : fitR y) : Calls Try.prog 30 #[.func (.func 37) #[] #[], numV (Q6.rat u v) a1 ac1 a2 ac2 a3 ac3 a4 ac4, numV (Q6.rat x y) u1 uc1 u2 uc2 u3 uc3 u4 uc4] w (AnsN w (ratS (u * x - v * y) (u * y + v * x))) := by
  have hS : St w w [] [(u4, words y.den), (u3, words y.num.natAbs), (u2, words x.den), (u1, words x.num.natAbs), (a4, words v.den), (a3, words v.num.natAbs), (a2, words u.den), (a1, words u.num.natAbs)] [] := ((((((((St.start w).addR ha.s1.rd).addR ha.s2.rd).addR ha.s3.rd).addR ha.s4.rd).addR hb.s1.rd).addR hb.s2.rd).addR hb.s3.rd).addR hb.s4.rd
  refine walk_of (l := [(0, .func (.func 37) #[] #[]), (1, .agg #[.bool (rb u.num), .slice a1 ((words u.num.natAbs).length) ac1, .slice a2 ((words u.den).length) ac2, .bool (rb v.num), .slice a3 ((words v.num.natAbs).length) ac3, .slice a4 ((words v.den).length) ac4]), (2, .agg #[.bool (rb x.num), .slice u1 ((words x.num.natAbs).length) uc1, .slice u2 ((words x.den).length) uc2, .bool (rb y.num), .slice u3 ((words y.num.natAbs).length) uc3, .slice u4 ((words y.den).length) uc4])]) Try.func30 rfl Try.ntmps30 rfl rfl ?_
  intro Q hret hnorm hP a hA
  refine wp_seq_k (fun K1 hK1 => ?_)
  refine wp_region_lit ?_
  refine seq_new (vs := [.bool (rb u.num), .slice a1 ((words u.num.natAbs).length) ac1, .slice a2 ((words u.den).length) ac2, .bool (rb v.num), .slice a3 ((words v.num.natAbs).length) ac3, .slice a4 ((words v.den).length) ac4]) (t := 26) hA hS rfl rfl rfl (fun g => .pointer (some ⟨g, 0, none⟩)) (does_box rfl rfl) rfl ?_
  intro g2 w3 hS a hA
  refine seq_new (vs := [.bool (rb x.num), .slice u1 ((words x.num.natAbs).length) uc1, .slice u2 ((words x.den).length) uc2, .bool (rb y.num), .slice u3 ((words y.num.natAbs).length) uc3, .slice u4 ((words y.den).length) uc4]) (t := 26) hA hS rfl rfl rfl (fun g => .pointer (some ⟨g, 0, none⟩)) (does_box rfl rfl) rfl ?_
  intro g4 w5 hS a hA
  refine seq_new (vs := [.bool false, .slice none 0 0, .slice none 0 0, .bool false, .slice none 0 0, .slice none 0 0]) (t := 26) hA hS rfl rfl rfl (fun g => .pointer (some ⟨g, 0, none⟩)) (does_alloc (z := .agg #[.bool false, .slice none 0 0, .slice none 0 0, .bool false, .slice none 0 0, .slice none 0 0]) (by kernel_rfl) rfl) rfl ?_
  intro g6 w7 hS a hA
  refine seq_do hA rfl rfl rfl (does_assign rfl) ?_
  intro a hA
  refine seq_end ?_
  refine hK1 _ _ ?_
  refine wp_seq_k (fun K8 hK8 => ?_)
  refine wp_seq_k (fun K9 hK9 => ?_)
  refine wp_region_lit ?_
  refine seq_do (v := .agg #[.bool (rb u.num), .slice a1 ((words u.num.natAbs).length) ac1, .slice a2 ((words u.den).length) ac2, .bool (rb v.num), .slice a3 ((words v.num.natAbs).length) ac3, .slice a4 ((words v.den).length) ac4]) hA rfl rfl rfl (does_loadS hS ExL_isS_26 rfl 2 rfl (cs := [.bool (rb u.num), .slice a1 ((words u.num.natAbs).length) ac1, .slice a2 ((words u.den).length) ac2, .bool (rb v.num), .slice a3 ((words v.num.natAbs).length) ac3, .slice a4 ((words v.den).length) ac4]) rfl rfl) ?_
  intro a hA
  refine seq_call hA rfl rfl rfl (enters_func  rfl rfl (fun w => by kernel_rfl)) (soundQ_any (show Nm _ (Q6.rat u v) a1 ac1 a2 ac2 a3 ac3 a4 ac4 from ⟨⟨(hS.rd 7 rfl), ha.s1.nil, ha.s1.cap⟩, ⟨(hS.rd 6 rfl), ha.s2.nil, ha.s2.cap⟩, ⟨(hS.rd 5 rfl), ha.s3.nil, ha.s3.cap⟩, ⟨(hS.rd 4 rfl), ha.s4.nil, ha.s4.cap⟩⟩) (lenQ_rat hu hv) (soundQ_rat hu hv)) ?_
  rintro _ w11 ⟨rfl, hb10⟩
  replace hS := hS.call hb10
  refine ⟨_, rfl, ?_⟩
  intro a hA
  refine seq_do (v := .bool false) hA rfl rfl rfl (does_un rfl un_not) ?_
  intro a hA
  refine seq_do hA rfl rfl rfl (does_move rfl) ?_
  intro a hA
  refine seq_do (v := .agg #[.bool (rb x.num), .slice u1 ((words x.num.natAbs).length) uc1, .slice u2 ((words x.den).length) uc2, .bool (rb y.num), .slice u3 ((words y.num.natAbs).length) uc3, .slice u4 ((words y.den).length) uc4]) hA rfl rfl rfl (does_loadS hS ExL_isS_26 rfl 1 rfl (cs := [.bool (rb x.num), .slice u1 ((words x.num.natAbs).length) uc1, .slice u2 ((words x.den).length) uc2, .bool (rb y.num), .slice u3 ((words y.num.natAbs).length) uc3, .slice u4 ((words y.den).length) uc4]) rfl rfl) ?_
  intro a hA
  refine seq_call hA rfl rfl rfl (enters_func  rfl rfl (fun w => by kernel_rfl)) (soundQ_any (show Nm _ (Q6.rat x y) u1 uc1 u2 uc2 u3 uc3 u4 uc4 from ⟨⟨(hS.rd 3 rfl), hb.s1.nil, hb.s1.cap⟩, ⟨(hS.rd 2 rfl), hb.s2.nil, hb.s2.cap⟩, ⟨(hS.rd 1 rfl), hb.s3.nil, hb.s3.cap⟩, ⟨(hS.rd 0 rfl), hb.s4.nil, hb.s4.cap⟩⟩) (lenQ_rat hx hy) (soundQ_rat hx hy)) ?_
  rintro _ w13 ⟨rfl, hb12⟩
  replace hS := hS.call hb12
  refine ⟨_, rfl, ?_⟩
  intro a hA
  refine seq_do (v := .bool false) hA rfl rfl rfl (does_un rfl un_not) ?_
  intro a hA
  refine seq_do (v := .bool false) hA rfl rfl rfl (does_pick rfl rfl rfl rfl) ?_
  intro a hA
  refine seq_end ?_
  refine hK9 _ _ ?_
  refine wp_cond_false (hA.ev rfl) ?_
  refine wp_skip ?_
  refine hK8 _ _ ?_
  refine wp_seq_k (fun K14 hK14 => ?_)
  refine wp_draw (S := fun w1 => St w w1 [(g4, [.bool (rb x.num), .slice u1 ((words x.num.natAbs).length) uc1, .slice u2 ((words x.den).length) uc2, .bool (rb y.num), .slice u3 ((words y.num.natAbs).length) uc3, .slice u4 ((words y.den).length) uc4]), (g2, [.bool (rb u.num), .slice a1 ((words u.num.natAbs).length) ac1, .slice a2 ((words u.den).length) ac2, .bool (rb v.num), .slice a3 ((words v.num.natAbs).length) ac3, .slice a4 ((words v.den).length) ac4])] [(u4, words y.den), (u3, words y.num.natAbs), (u2, words x.den), (u1, words x.num.natAbs), (a4, words v.den), (a3, words v.num.natAbs), (a2, words u.den), (a1, words u.num.natAbs)] []) (by kernel_rfl) ?_
  replace hS := hS.drew
  refine any_take hA 0 rfl rfl rfl rfl (by kernel_rfl) (by kernel_rfl) (by kernel_rfl) (fun c a w h => hP c a _ _ w h) (hS.partD (.cons _ (.cons_cons _ (.cons_cons _ .slnil))) 0 rfl (.refl _)) (fun w1 hS => does_move rfl) ?_
  intro a hA
  refine any_take (v := .agg #[.bool (rb u.num), .slice a1 ((words u.num.natAbs).length) ac1, .slice a2 ((words u.den).length) ac2, .bool (rb v.num), .slice a3 ((words v.num.natAbs).length) ac3, .slice a4 ((words v.den).length) ac4]) hA 1 rfl rfl rfl rfl (by kernel_rfl) (by kernel_rfl) (by kernel_rfl) (fun c a w h => hP c a _ _ w h) (hS.partD (.cons _ (.cons_cons _ (.cons_cons _ .slnil))) 0 rfl (.refl _)) (fun w1 hS => does_loadS hS ExL_isS_26 rfl 1 rfl (cs := [.bool (rb u.num), .slice a1 ((words u.num.natAbs).length) ac1, .slice a2 ((words u.den).length) ac2, .bool (rb v.num), .slice a3 ((words v.num.natAbs).length) ac3, .slice a4 ((words v.den).length) ac4]) rfl rfl) ?_
  intro a hA
  refine any_take (v := .agg #[.bool (rb x.num), .slice u1 ((words x.num.natAbs).length) uc1, .slice u2 ((words x.den).length) uc2, .bool (rb y.num), .slice u3 ((words y.num.natAbs).length) uc3, .slice u4 ((words y.den).length) uc4]) hA 3 rfl rfl rfl rfl (by kernel_rfl) (by kernel_rfl) (by kernel_rfl) (fun c a w h => hP c a _ _ w h) (hS.partD (.cons _ (.cons_cons _ (.cons_cons _ .slnil))) 0 rfl (.refl _)) (fun w1 hS => does_loadS hS ExL_isS_26 rfl 0 rfl (cs := [.bool (rb x.num), .slice u1 ((words x.num.natAbs).length) uc1, .slice u2 ((words x.den).length) uc2, .bool (rb y.num), .slice u3 ((words y.num.natAbs).length) uc3, .slice u4 ((words y.den).length) uc4]) rfl rfl) ?_
  intro a hA
  refine any_one (by kernel_rfl) (op_call hA 2 rfl rfl rfl rfl (enters_func  rfl rfl (fun w => by kernel_rfl)) (zspread_any (show Nm _ (Q6.rat u v) a1 ac1 a2 ac2 a3 ac3 a4 ac4 from ⟨⟨(hS.rd 7 rfl), ha.s1.nil, ha.s1.cap⟩, ⟨(hS.rd 6 rfl), ha.s2.nil, ha.s2.cap⟩, ⟨(hS.rd 5 rfl), ha.s3.nil, ha.s3.cap⟩, ⟨(hS.rd 4 rfl), ha.s4.nil, ha.s4.cap⟩⟩) hu hv) ?_)
  rintro _ w20 ⟨p15_1, p15_c1, p15_2, p15_c2, p15_3, p15_c3, rfl, hs16, hs17, hs18, hb19⟩
  replace hS := hS.call hb19
  replace hS := hS.addR hs16.rd
  replace hS := hS.addR hs17.rd
  replace hS := hS.addR hs18.rd
  refine ⟨_, rfl, (hS.partD (.cons _ (.cons_cons _ (.cons_cons _ .slnil))) 3 rfl (.refl _)), ?_⟩
  intro a hA
  refine any_one (by kernel_rfl) (op_call hA 4 rfl rfl rfl rfl (enters_func  rfl rfl (fun w => by kernel_rfl)) (zspread_any (show Nm _ (Q6.rat x y) u1 uc1 u2 uc2 u3 uc3 u4 uc4 from ⟨⟨(hS.rd 6 rfl), hb.s1.nil, hb.s1.cap⟩, ⟨(hS.rd 5 rfl), hb.s2.nil, hb.s2.cap⟩, ⟨(hS.rd 4 rfl), hb.s3.nil, hb.s3.cap⟩, ⟨(hS.rd 3 rfl), hb.s4.nil, hb.s4.cap⟩⟩) hx hy) ?_)
  rintro _ w26 ⟨p21_1, p21_c1, p21_2, p21_c2, p21_3, p21_c3, rfl, hs22, hs23, hs24, hb25⟩
  replace hS := hS.call hb25
  replace hS := hS.addR hs22.rd
  replace hS := hS.addR hs23.rd
  replace hS := hS.addR hs24.rd
  refine ⟨_, rfl, (hS.partD (.cons _ (.cons_cons _ (.cons_cons _ .slnil))) 6 rfl (.refl _)), ?_⟩
  intro a hA
  refine any_one (by kernel_rfl) (op_call hA 5 rfl rfl rfl rfl (enters_func  rfl rfl (fun w => by kernel_rfl)) (zproduct_any ⟨(hS.rd 5 rfl), hs16.nil, hs16.cap⟩ ⟨(hS.rd 4 rfl), hs17.nil, hs17.cap⟩ ⟨(hS.rd 3 rfl), hs18.nil, hs18.cap⟩ ⟨(hS.rd 2 rfl), hs22.nil, hs22.cap⟩ ⟨(hS.rd 1 rfl), hs23.nil, hs23.cap⟩ ⟨(hS.rd 0 rfl), hs24.nil, hs24.cap⟩ (Nat.le_trans (spX_len hu hv) (by decide)) (Nat.le_trans (spY_len hu hv) (by decide)) (Nat.le_trans (spD_len hu hv) (by decide)) (Nat.le_trans (spX_len hx hy) (by decide)) (Nat.le_trans (spY_len hx hy) (by decide)) (Nat.le_trans (spD_len hx hy) (by decide))) ?_)
  rintro _ w32 ⟨p27_1, p27_c1, p27_2, p27_c2, p27_3, p27_c3, rfl, hs28, hs29, hs30, hb31⟩
  replace hS := hS.call hb31
  replace hS := hS.addR hs28.rd
  replace hS := hS.addR hs29.rd
  replace hS := hS.addR hs30.rd
  refine ⟨_, rfl, (hS.partD (.cons _ (.cons_cons _ (.cons_cons _ .slnil))) 9 rfl (.refl _)), ?_⟩
  intro a hA
  refine any_one (by kernel_rfl) (op_call hA 6 rfl rfl rfl rfl (enters_func  rfl rfl (fun w => by kernel_rfl)) (zsettle_as ⟨(hS.rd 2 rfl), hs28.nil, hs28.cap⟩ ⟨(hS.rd 1 rfl), hs29.nil, hs29.cap⟩ ⟨(hS.rd 0 rfl), hs30.nil, hs30.cap⟩ (set_mul (spD_ne u v) (spD_ne x y) (spX_mk u v) (spY_mk u v) (spX_mk x y) (spY_mk x y)) (Nat.le_trans (abs_add_len (abs_mul_len (spX_len hu hv) (spX_len hx hy)) (neg_len (abs_mul_len (spY_len hu hv) (spY_len hx hy)))) (by decide)) (Nat.le_trans (abs_add_len (abs_mul_len (spX_len hu hv) (spY_len hx hy)) (abs_mul_len (spY_len hu hv) (spX_len hx hy))) (by decide)) (Nat.le_trans (words_mul_length (spD_len hu hv) (spD_len hx hy)) (by decide)) (Nat.mul_ne_zero (spD_ne u v) (spD_ne x y))) ?_)
  rintro _ w36 ⟨p33_1, p33_c1, p33_2, p33_c2, p33_3, p33_c3, p33_4, p33_c4, rfl, hn34, hb35⟩
  replace hS := hS.call hb35
  replace hS := hS.addR hn34.s1.rd
  replace hS := hS.addR hn34.s2.rd
  replace hS := hS.addR hn34.s3.rd
  replace hS := hS.addR hn34.s4.rd
  refine ⟨_, rfl, (hS.partD (.cons _ (.cons_cons _ (.cons_cons _ .slnil))) 13 rfl (.refl _)), ?_⟩
  intro a hA
  refine any_take (v := .agg #[.bool ((ratS (u * x - v * y) (u * y + v * x)).1.b1), .slice p33_1 (((ratS (u * x - v * y) (u * y + v * x)).1.t1).length) p33_c1, .slice p33_2 (((ratS (u * x - v * y) (u * y + v * x)).1.q1).length) p33_c2, .bool ((ratS (u * x - v * y) (u * y + v * x)).1.b2), .slice p33_3 (((ratS (u * x - v * y) (u * y + v * x)).1.t2).length) p33_c3, .slice p33_4 (((ratS (u * x - v * y) (u * y + v * x)).1.q2).length) p33_c4]) hA 7 rfl rfl rfl rfl (by kernel_rfl) (by kernel_rfl) (by kernel_rfl) (fun c a w h => hP c a _ _ w h) (hS.partD (.cons _ (.cons_cons _ (.cons_cons _ .slnil))) 13 rfl (.refl _)) (fun w1 hS => does_extract (vs := [.agg #[.bool ((ratS (u * x - v * y) (u * y + v * x)).1.b1), .slice p33_1 (((ratS (u * x - v * y) (u * y + v * x)).1.t1).length) p33_c1, .slice p33_2 (((ratS (u * x - v * y) (u * y + v * x)).1.q1).length) p33_c2, .bool ((ratS (u * x - v * y) (u * y + v * x)).1.b2), .slice p33_3 (((ratS (u * x - v * y) (u * y + v * x)).1.t2).length) p33_c3, .slice p33_4 (((ratS (u * x - v * y) (u * y + v * x)).1.q2).length) p33_c4], .int .i64 ((ratS (u * x - v * y) (u * y + v * x)).2)]) rfl rfl) ?_
  intro a hA
  refine any_take (v := .int .i64 ((ratS (u * x - v * y) (u * y + v * x)).2)) hA 8 rfl rfl rfl rfl (by kernel_rfl) (by kernel_rfl) (by kernel_rfl) (fun c a w h => hP c a _ _ w h) (hS.partD (.cons _ (.cons_cons _ (.cons_cons _ .slnil))) 13 rfl (.refl _)) (fun w1 hS => does_extract (vs := [.agg #[.bool ((ratS (u * x - v * y) (u * y + v * x)).1.b1), .slice p33_1 (((ratS (u * x - v * y) (u * y + v * x)).1.t1).length) p33_c1, .slice p33_2 (((ratS (u * x - v * y) (u * y + v * x)).1.q1).length) p33_c2, .bool ((ratS (u * x - v * y) (u * y + v * x)).1.b2), .slice p33_3 (((ratS (u * x - v * y) (u * y + v * x)).1.t2).length) p33_c3, .slice p33_4 (((ratS (u * x - v * y) (u * y + v * x)).1.q2).length) p33_c4], .int .i64 ((ratS (u * x - v * y) (u * y + v * x)).2)]) rfl rfl) ?_
  intro a hA
  refine any_one (by kernel_rfl) (op_store (us := [.bool ((ratS (u * x - v * y) (u * y + v * x)).1.b1), .slice p33_1 (((ratS (u * x - v * y) (u * y + v * x)).1.t1).length) p33_c1, .slice p33_2 (((ratS (u * x - v * y) (u * y + v * x)).1.q1).length) p33_c2, .bool ((ratS (u * x - v * y) (u * y + v * x)).1.b2), .slice p33_3 (((ratS (u * x - v * y) (u * y + v * x)).1.t2).length) p33_c3, .slice p33_4 (((ratS (u * x - v * y) (u * y + v * x)).1.q2).length) p33_c4]) hA hS 9 rfl rfl rfl (sets_store (cs := [.bool ((ratS (u * x - v * y) (u * y + v * x)).1.b1), .slice p33_1 (((ratS (u * x - v * y) (u * y + v * x)).1.t1).length) p33_c1, .slice p33_2 (((ratS (u * x - v * y) (u * y + v * x)).1.q1).length) p33_c2, .bool ((ratS (u * x - v * y) (u * y + v * x)).1.b2), .slice p33_3 (((ratS (u * x - v * y) (u * y + v * x)).1.t2).length) p33_c3, .slice p33_4 (((ratS (u * x - v * y) (u * y + v * x)).1.q2).length) p33_c4]) rfl rfl rfl (by kernel_rfl) hS 0 rfl rfl rfl) 0 rfl rfl rfl rfl ?_)
  intro w37 hS
  refine ⟨(hS.partD (.cons _ (.cons_cons _ (.cons_cons _ .slnil))) 13 rfl (.refl _)), ?_⟩
  refine any_take hA 10 rfl rfl rfl rfl (by kernel_rfl) (by kernel_rfl) (by kernel_rfl) (fun c a w h => hP c a _ _ w h) (hS.partD (.cons _ (.cons_cons _ (.cons_cons _ .slnil))) 13 rfl (.refl _)) (fun w1 hS => does_assign rfl) ?_
  intro a hA
  refine any_end (by kernel_rfl) ?_
  refine hK14 _ _ ?_
  refine wp_ret ?_
  refine hret _ _ ?_
  refine ends (v := .tuple #[.agg #[.bool ((ratS (u * x - v * y) (u * y + v * x)).1.b1), .slice p33_1 (((ratS (u * x - v * y) (u * y + v * x)).1.t1).length) p33_c1, .slice p33_2 (((ratS (u * x - v * y) (u * y + v * x)).1.q1).length) p33_c2, .bool ((ratS (u * x - v * y) (u * y + v * x)).1.b2), .slice p33_3 (((ratS (u * x - v * y) (u * y + v * x)).1.t2).length) p33_c3, .slice p33_4 (((ratS (u * x - v * y) (u * y + v * x)).1.q2).length) p33_c4], .int .i64 ((ratS (u * x - v * y) (u * y + v * x)).2)]) hA rfl (.cons (res_cell hS ExL_isS_26 rfl 0 rfl (cs := [.bool ((ratS (u * x - v * y) (u * y + v * x)).1.b1), .slice p33_1 (((ratS (u * x - v * y) (u * y + v * x)).1.t1).length) p33_c1, .slice p33_2 (((ratS (u * x - v * y) (u * y + v * x)).1.q1).length) p33_c2, .bool ((ratS (u * x - v * y) (u * y + v * x)).1.b2), .slice p33_3 (((ratS (u * x - v * y) (u * y + v * x)).1.t2).length) p33_c3, .slice p33_4 (((ratS (u * x - v * y) (u * y + v * x)).1.q2).length) p33_c4]) rfl rfl) (.cons (res_tmp rfl) .nil)) rfl ?_
  exact ⟨p33_1, p33_c1, p33_2, p33_c2, p33_3, p33_c3, p33_4, p33_c4, rfl, ⟨⟨(hS.rd 3 rfl), hn34.s1.nil, hn34.s1.cap⟩, ⟨(hS.rd 2 rfl), hn34.s2.nil, hn34.s2.cap⟩, ⟨(hS.rd 1 rfl), hn34.s3.nil, hn34.s3.cap⟩, ⟨(hS.rd 0 rfl), hn34.s4.nil, hn34.s4.cap⟩⟩, hS.bel⟩
theorem reckonMQ_any {w : World} {p q : Q6} {a1 a2 a3 a4 : Option Addr} {ac1 ac2 ac3 ac4 : Nat} (ha : Nm w p a1 ac1 a2 ac2 a3 ac3 a4 ac4) (hl : LenQ p) {u1 u2 u3 u4 : Option Addr} {uc1 uc2 uc3 uc4 : Nat} (hb : Nm w q u1 uc1 u2 uc2 u3 uc3 u4 uc4) (hm : LenQ q) : Calls Try.prog 30 #[.func (.func 37) #[] #[], numV p a1 ac1 a2 ac2 a3 ac3 a4 ac4, numV q u1 uc1 u2 uc2 u3 uc3 u4 uc4] w (AnsN w (mulQ p q)) := by
  rcases sound_cases ha with h1 | ⟨u, v, rfl, hu, hv⟩
  · rw [show mulQ p q = (Q6.zero, 2) from if_neg (fun k => by rw [h1] at k; cases k.1)]
    exact reckonE1_any ha hl hb hm h1
  · rcases sound_cases hb with h2 | ⟨x, y, rfl, hx, hy⟩
    · rw [show mulQ _ q = (Q6.zero, 2) from if_neg (fun k => by rw [h2] at k; cases k.2)]
      exact reckonE2_any ha hl hb hm (soundQ_rat hu hv) h2
    · rw [mulQ_rat hu hv hx hy]
      exact reckonM_any ha hb hu hv hx hy
theorem mulQ_any {w : World} {p q : Q6} {a1 a2 a3 a4 : Option Addr} {ac1 ac2 ac3 ac4 : Nat} (ha : Nm w p a1 ac1 a2 ac2 a3 ac3 a4 ac4) (hl : LenQ p) {u1 u2 u3 u4 : Option Addr} {uc1 uc2 uc3 uc4 : Nat} (hb : Nm w q u1 uc1 u2 uc2 u3 uc3 u4 uc4) (hm : LenQ q) : Calls Try.prog 12 #[numV p a1 ac1 a2 ac2 a3 ac3 a4 ac4, numV q u1 uc1 u2 uc2 u3 uc3 u4 uc4] w (AnsN w (mulQ p q)) := by
  have hS : St w w [] [(u4, q.q2), (u3, q.t2), (u2, q.q1), (u1, q.t1), (a4, p.q2), (a3, p.t2), (a2, p.q1), (a1, p.t1)] [] := ((((((((St.start w).addR ha.s1.rd).addR ha.s2.rd).addR ha.s3.rd).addR ha.s4.rd).addR hb.s1.rd).addR hb.s2.rd).addR hb.s3.rd).addR hb.s4.rd
  refine walk_of (l := [(0, .agg #[.bool p.b1, .slice a1 p.t1.length ac1, .slice a2 p.q1.length ac2, .bool p.b2, .slice a3 p.t2.length ac3, .slice a4 p.q2.length ac4]), (1, .agg #[.bool q.b1, .slice u1 q.t1.length uc1, .slice u2 q.q1.length uc2, .bool q.b2, .slice u3 q.t2.length uc3, .slice u4 q.q2.length uc4])]) Try.func12 rfl Try.ntmps12 rfl rfl ?_
  intro Q hret hnorm hP a hA
  refine wp_seq_k (fun K1 hK1 => ?_)
  refine wp_region_lit ?_
  refine seq_new (vs := [.bool p.b1, .slice a1 p.t1.length ac1, .slice a2 p.q1.length ac2, .bool p.b2, .slice a3 p.t2.length ac3, .slice a4 p.q2.length ac4]) (t := 26) hA hS rfl rfl rfl (fun g => .pointer (some ⟨g, 0, none⟩)) (does_box rfl rfl) rfl ?_
  intro g2 w3 hS a hA
  refine seq_new (vs := [.bool q.b1, .slice u1 q.t1.length uc1, .slice u2 q.q1.length uc2, .bool q.b2, .slice u3 q.t2.length uc3, .slice u4 q.q2.length uc4]) (t := 26) hA hS rfl rfl rfl (fun g => .pointer (some ⟨g, 0, none⟩)) (does_box rfl rfl) rfl ?_
  intro g4 w5 hS a hA
  refine seq_new (vs := [.bool false, .slice none 0 0, .slice none 0 0, .bool false, .slice none 0 0, .slice none 0 0]) (t := 26) hA hS rfl rfl rfl (fun g => .pointer (some ⟨g, 0, none⟩)) (does_alloc (z := .agg #[.bool false, .slice none 0 0, .slice none 0 0, .bool false, .slice none 0 0, .slice none 0 0]) (by kernel_rfl) rfl) rfl ?_
  intro g6 w7 hS a hA
  refine seq_do hA rfl rfl rfl (does_assign rfl) ?_
  intro a hA
  refine seq_end ?_
  refine hK1 _ _ ?_
  refine wp_seq_k (fun K8 hK8 => ?_)
  refine wp_region_lit ?_
  refine seq_do (v := .agg #[.bool p.b1, .slice a1 p.t1.length ac1, .slice a2 p.q1.length ac2, .bool p.b2, .slice a3 p.t2.length ac3, .slice a4 p.q2.length ac4]) hA rfl rfl rfl (does_loadS hS ExL_isS_26 rfl 2 rfl (cs := [.bool p.b1, .slice a1 p.t1.length ac1, .slice a2 p.q1.length ac2, .bool p.b2, .slice a3 p.t2.length ac3, .slice a4 p.q2.length ac4]) rfl rfl) ?_
  intro a hA
  refine seq_do (v := .agg #[.bool q.b1, .slice u1 q.t1.length uc1, .slice u2 q.q1.length uc2, .bool q.b2, .slice u3 q.t2.length uc3, .slice u4 q.q2.length uc4]) hA rfl rfl rfl (does_loadS hS ExL_isS_26 rfl 1 rfl (cs := [.bool q.b1, .slice u1 q.t1.length uc1, .slice u2 q.q1.length uc2, .bool q.b2, .slice u3 q.t2.length uc3, .slice u4 q.q2.length uc4]) rfl rfl) ?_
  intro a hA
  refine seq_call hA rfl rfl rfl (enters_func  rfl rfl (fun w => by kernel_rfl)) (reckonMQ_any (show Nm _ p a1 ac1 a2 ac2 a3 ac3 a4 ac4 from ⟨⟨(hS.rd 7 rfl), ha.s1.nil, ha.s1.cap⟩, ⟨(hS.rd 6 rfl), ha.s2.nil, ha.s2.cap⟩, ⟨(hS.rd 5 rfl), ha.s3.nil, ha.s3.cap⟩, ⟨(hS.rd 4 rfl), ha.s4.nil, ha.s4.cap⟩⟩) hl (show Nm _ q u1 uc1 u2 uc2 u3 uc3 u4 uc4 from ⟨⟨(hS.rd 3 rfl), hb.s1.nil, hb.s1.cap⟩, ⟨(hS.rd 2 rfl), hb.s2.nil, hb.s2.cap⟩, ⟨(hS.rd 1 rfl), hb.s3.nil, hb.s3.cap⟩, ⟨(hS.rd 0 rfl), hb.s4.nil, hb.s4.cap⟩⟩) hm) ?_
  rintro _ w12 ⟨p9_1, p9_c1, p9_2, p9_c2, p9_3, p9_c3, p9_4, p9_c4, rfl, hn10, hb11⟩
  replace hS := hS.call hb11
  replace hS := hS.addR hn10.s1.rd
  replace hS := hS.addR hn10.s2.rd
  replace hS := hS.addR hn10.s3.rd
  replace hS := hS.addR hn10.s4.rd
  refine ⟨_, rfl, ?_⟩
  intro a hA
  refine seq_do (v := .agg #[.bool ((mulQ p q).1.b1), .slice p9_1 (((mulQ p q).1.t1).length) p9_c1, .slice p9_2 (((mulQ p q).1.q1).length) p9_c2, .bool ((mulQ p q).1.b2), .slice p9_3 (((mulQ p q).1.t2).length) p9_c3, .slice p9_4 (((mulQ p q).1.q2).length) p9_c4]) hA rfl rfl rfl (does_extract (vs := [.agg #[.bool ((mulQ p q).1.b1), .slice p9_1 (((mulQ p q).1.t1).length) p9_c1, .slice p9_2 (((mulQ p q).1.q1).length) p9_c2, .bool ((mulQ p q).1.b2), .slice p9_3 (((mulQ p q).1.t2).length) p9_c3, .slice p9_4 (((mulQ p q).1.q2).length) p9_c4], .int .i64 ((mulQ p q).2)]) rfl rfl) ?_
  intro a hA
  refine seq_do (v := .int .i64 ((mulQ p q).2)) hA rfl rfl rfl (does_extract (vs := [.agg #[.bool ((mulQ p q).1.b1), .slice p9_1 (((mulQ p q).1.t1).length) p9_c1, .slice p9_2 (((mulQ p q).1.q1).length) p9_c2, .bool ((mulQ p q).1.b2), .slice p9_3 (((mulQ p q).1.t2).length) p9_c3, .slice p9_4 (((mulQ p q).1.q2).length) p9_c4], .int .i64 ((mulQ p q).2)]) rfl rfl) ?_
  intro a hA
  refine seq_store (us := [.bool ((mulQ p q).1.b1), .slice p9_1 (((mulQ p q).1.t1).length) p9_c1, .slice p9_2 (((mulQ p q).1.q1).length) p9_c2, .bool ((mulQ p q).1.b2), .slice p9_3 (((mulQ p q).1.t2).length) p9_c3, .slice p9_4 (((mulQ p q).1.q2).length) p9_c4]) hA hS rfl rfl (sets_store (cs := [.bool ((mulQ p q).1.b1), .slice p9_1 (((mulQ p q).1.t1).length) p9_c1, .slice p9_2 (((mulQ p q).1.q1).length) p9_c2, .bool ((mulQ p q).1.b2), .slice p9_3 (((mulQ p q).1.t2).length) p9_c3, .slice p9_4 (((mulQ p q).1.q2).length) p9_c4]) rfl rfl rfl (by kernel_rfl) hS 0 rfl rfl rfl) 0 rfl rfl rfl rfl ?_
  intro w13 hS
  refine seq_do hA rfl rfl rfl (does_assign rfl) ?_
  intro a hA
  refine seq_end ?_
  refine hK8 _ _ ?_
  refine wp_ret ?_
  refine hret _ _ ?_
  refine ends (v := .tuple #[.agg #[.bool ((mulQ p q).1.b1), .slice p9_1 (((mulQ p q).1.t1).length) p9_c1, .slice p9_2 (((mulQ p q).1.q1).length) p9_c2, .bool ((mulQ p q).1.b2), .slice p9_3 (((mulQ p q).1.t2).length) p9_c3, .slice p9_4 (((mulQ p q).1.q2).length) p9_c4], .int .i64 ((mulQ p q).2)]) hA rfl (.cons (res_cell hS ExL_isS_26 rfl 0 rfl (cs := [.bool ((mulQ p q).1.b1), .slice p9_1 (((mulQ p q).1.t1).length) p9_c1, .slice p9_2 (((mulQ p q).1.q1).length) p9_c2, .bool ((mulQ p q).1.b2), .slice p9_3 (((mulQ p q).1.t2).length) p9_c3, .slice p9_4 (((mulQ p q).1.q2).length) p9_c4]) rfl rfl) (.cons (res_tmp rfl) .nil)) rfl ?_
  exact ⟨p9_1, p9_c1, p9_2, p9_c2, p9_3, p9_c3, p9_4, p9_c4, rfl, ⟨⟨(hS.rd 3 rfl), hn10.s1.nil, hn10.s1.cap⟩, ⟨(hS.rd 2 rfl), hn10.s2.nil, hn10.s2.cap⟩, ⟨(hS.rd 1 rfl), hn10.s3.nil, hn10.s3.cap⟩, ⟨(hS.rd 0 rfl), hn10.s4.nil, hn10.s4.cap⟩⟩, hS.bel⟩
theorem divZ_any {w : World} {u v x y : Rat} {a1 a2 a3 a4 : Option Addr} {ac1 ac2 ac3 ac4 : Nat} (ha : Nm w (Q6.rat u v) a1 ac1 a2 ac2 a3 ac3 a4 ac4) {u1 u2 u3 u4 : Option Addr} {uc1 uc2 uc3 uc4 : Nat} (hb : Nm w (Q6.rat x y) u1 uc1 u2 uc2 u3 uc3 u4 uc4) (hu : fitR u) (hv : fitR v) (hx : fitR x) (hy : fitR y) (hz : x = 0 ∧ y = 0) : Calls Try.prog 28 #[numV (Q6.rat u v) a1 ac1 a2 ac2 a3 ac3 a4 ac4, numV (Q6.rat x y) u1 uc1 u2 uc2 u3 uc3 u4 uc4] w (AnsN w (Q6.zero, 3)) := by
  have k1 : (words x.num.natAbs).length ≤ 512 := hx.1
  have k2 : (words y.num.natAbs).length ≤ 512 := hy.1
  have hS : St w w [] [(u4, words y.den), (u3, words y.num.natAbs), (u2, words x.den), (u1, words x.num.natAbs), (a4, words v.den), (a3, words v.num.natAbs), (a2, words u.den), (a1, words u.num.natAbs)] [] := ((((((((St.start w).addR ha.s1.rd).addR ha.s2.rd).addR ha.s3.rd).addR ha.s4.rd).addR hb.s1.rd).addR hb.s2.rd).addR hb.s3.rd).addR hb.s4.rd
  refine walk_of (l := [(0, .agg #[.bool (rb u.num), .slice a1 ((words u.num.natAbs).length) ac1, .slice a2 ((words u.den).length) ac2, .bool (rb v.num), .slice a3 ((words v.num.natAbs).length) ac3, .slice a4 ((words v.den).length) ac4]), (1, .agg #[.bool (rb x.num), .slice u1 ((words x.num.natAbs).length) uc1, .slice u2 ((words x.den).length) uc2, .bool (rb y.num), .slice u3 ((words y.num.natAbs).length) uc3, .slice u4 ((words y.den).length) uc4])]) Try.func28 rfl Try.ntmps28 rfl rfl ?_
  intro Q hret hnorm hP a hA
  refine wp_seq_k (fun K1 hK1 => ?_)
  refine wp_region_lit ?_
  refine seq_new (vs := [.bool (rb u.num), .slice a1 ((words u.num.natAbs).length) ac1, .slice a2 ((words u.den).length) ac2, .bool (rb v.num), .slice a3 ((words v.num.natAbs).length) ac3, .slice a4 ((words v.den).length) ac4]) (t := 26) hA hS rfl rfl rfl (fun g => .pointer (some ⟨g, 0, none⟩)) (does_box rfl rfl) rfl ?_
  intro g2 w3 hS a hA
  refine seq_new (vs := [.bool (rb x.num), .slice u1 ((words x.num.natAbs).length) uc1, .slice u2 ((words x.den).length) uc2, .bool (rb y.num), .slice u3 ((words y.num.natAbs).length) uc3, .slice u4 ((words y.den).length) uc4]) (t := 26) hA hS rfl rfl rfl (fun g => .pointer (some ⟨g, 0, none⟩)) (does_box rfl rfl) rfl ?_
  intro g4 w5 hS a hA
  refine seq_new (vs := [.bool false, .slice none 0 0, .slice none 0 0, .bool false, .slice none 0 0, .slice none 0 0]) (t := 26) hA hS rfl rfl rfl (fun g => .pointer (some ⟨g, 0, none⟩)) (does_alloc (z := .agg #[.bool false, .slice none 0 0, .slice none 0 0, .bool false, .slice none 0 0, .slice none 0 0]) (by kernel_rfl) rfl) rfl ?_
  intro g6 w7 hS a hA
  refine seq_do hA rfl rfl rfl (does_assign rfl) ?_
  intro a hA
  refine seq_end ?_
  refine hK1 _ _ ?_
  refine wp_seq_k (fun K8 hK8 => ?_)
  refine wp_seq_k (fun K9 hK9 => ?_)
  refine wp_region_lit ?_
  refine seq_do (v := .agg #[.bool (rb u.num), .slice a1 ((words u.num.natAbs).length) ac1, .slice a2 ((words u.den).length) ac2, .bool (rb v.num), .slice a3 ((words v.num.natAbs).length) ac3, .slice a4 ((words v.den).length) ac4]) hA rfl rfl rfl (does_loadS hS ExL_isS_26 rfl 2 rfl (cs := [.bool (rb u.num), .slice a1 ((words u.num.natAbs).length) ac1, .slice a2 ((words u.den).length) ac2, .bool (rb v.num), .slice a3 ((words v.num.natAbs).length) ac3, .slice a4 ((words v.den).length) ac4]) rfl rfl) ?_
  intro a hA
  refine seq_call hA rfl rfl rfl (enters_func  rfl rfl (fun w => by kernel_rfl)) (soundQ_any (show Nm _ (Q6.rat u v) a1 ac1 a2 ac2 a3 ac3 a4 ac4 from ⟨⟨(hS.rd 7 rfl), ha.s1.nil, ha.s1.cap⟩, ⟨(hS.rd 6 rfl), ha.s2.nil, ha.s2.cap⟩, ⟨(hS.rd 5 rfl), ha.s3.nil, ha.s3.cap⟩, ⟨(hS.rd 4 rfl), ha.s4.nil, ha.s4.cap⟩⟩) (lenQ_rat hu hv) (soundQ_rat hu hv)) ?_
  rintro _ w11 ⟨rfl, hb10⟩
  replace hS := hS.call hb10
  refine ⟨_, rfl, ?_⟩
  intro a hA
  refine seq_do (v := .bool false) hA rfl rfl rfl (does_un rfl un_not) ?_
  intro a hA
  refine seq_do hA rfl rfl rfl (does_move rfl) ?_
  intro a hA
  refine seq_do (v := .agg #[.bool (rb x.num), .slice u1 ((words x.num.natAbs).length) uc1, .slice u2 ((words x.den).length) uc2, .bool (rb y.num), .slice u3 ((words y.num.natAbs).length) uc3, .slice u4 ((words y.den).length) uc4]) hA rfl rfl rfl (does_loadS hS ExL_isS_26 rfl 1 rfl (cs := [.bool (rb x.num), .slice u1 ((words x.num.natAbs).length) uc1, .slice u2 ((words x.den).length) uc2, .bool (rb y.num), .slice u3 ((words y.num.natAbs).length) uc3, .slice u4 ((words y.den).length) uc4]) rfl rfl) ?_
  intro a hA
  refine seq_call hA rfl rfl rfl (enters_func  rfl rfl (fun w => by kernel_rfl)) (soundQ_any (show Nm _ (Q6.rat x y) u1 uc1 u2 uc2 u3 uc3 u4 uc4 from ⟨⟨(hS.rd 3 rfl), hb.s1.nil, hb.s1.cap⟩, ⟨(hS.rd 2 rfl), hb.s2.nil, hb.s2.cap⟩, ⟨(hS.rd 1 rfl), hb.s3.nil, hb.s3.cap⟩, ⟨(hS.rd 0 rfl), hb.s4.nil, hb.s4.cap⟩⟩) (lenQ_rat hx hy) (soundQ_rat hx hy)) ?_
  rintro _ w13 ⟨rfl, hb12⟩
  replace hS := hS.call hb12
  refine ⟨_, rfl, ?_⟩
  intro a hA
  refine seq_do (v := .bool false) hA rfl rfl rfl (does_un rfl un_not) ?_
  intro a hA
  refine seq_do (v := .bool false) hA rfl rfl rfl (does_pick rfl rfl rfl rfl) ?_
  intro a hA
  refine seq_end ?_
  refine hK9 _ _ ?_
  refine wp_cond_false (hA.ev rfl) ?_
  refine wp_skip ?_
  refine hK8 _ _ ?_
  refine wp_seq_k (fun K14 hK14 => ?_)
  refine wp_seq_k (fun K15 hK15 => ?_)
  refine wp_region_lit ?_
  refine seq_do (v := .agg #[.bool (rb x.num), .slice u1 ((words x.num.natAbs).length) uc1, .slice u2 ((words x.den).length) uc2, .bool (rb y.num), .slice u3 ((words y.num.natAbs).length) uc3, .slice u4 ((words y.den).length) uc4]) hA rfl rfl rfl (does_loadS hS ExL_isS_26 rfl 1 rfl (cs := [.bool (rb x.num), .slice u1 ((words x.num.natAbs).length) uc1, .slice u2 ((words x.den).length) uc2, .bool (rb y.num), .slice u3 ((words y.num.natAbs).length) uc3, .slice u4 ((words y.den).length) uc4]) rfl rfl) ?_
  intro a hA
  refine seq_call hA rfl rfl rfl (enters_func  rfl rfl (fun w => by kernel_rfl)) ((show Calls Try.prog 32 #[.agg #[.bool (rb x.num), .slice u1 ((words x.num.natAbs).length) uc1, .slice u2 ((words x.den).length) uc2, .bool (rb y.num), .slice u3 ((words y.num.natAbs).length) uc3, .slice u4 ((words y.den).length) uc4]] _ (fun e w' => e = .returned (.bool true) ∧ _) from (((zero_rat x y).trans (decide_eq_true hz)) ▸ isZero_any (by omega) (by omega)))) ?_
  rintro _ w17 ⟨rfl, hb16⟩
  replace hS := hS.call hb16
  refine ⟨_, rfl, ?_⟩
  intro a hA
  refine seq_end ?_
  refine hK15 _ _ ?_
  refine wp_cond_true (hA.ev rfl) ?_
  refine wp_seq_k (fun K18 hK18 => ?_)
  refine wp_region_lit ?_
  refine seq_do (v := .agg #[.bool false, .slice none 0 0, .slice none 0 0, .bool false, .slice none 0 0, .slice none 0 0]) hA rfl rfl rfl (does_build rfl (fun w => by kernel_rfl)) ?_
  intro a hA
  refine seq_store (us := [.bool false, .slice none 0 0, .slice none 0 0, .bool false, .slice none 0 0, .slice none 0 0]) hA hS rfl rfl (sets_store (cs := [.bool false, .slice none 0 0, .slice none 0 0, .bool false, .slice none 0 0, .slice none 0 0]) rfl rfl rfl (by kernel_rfl) hS 0 rfl rfl rfl) 0 rfl rfl rfl rfl ?_
  intro w19 hS
  refine seq_do hA rfl rfl rfl (does_assign rfl) ?_
  intro a hA
  refine seq_end ?_
  refine hK18 _ _ ?_
  refine wp_ret ?_
  refine hret _ _ ?_
  refine ends (v := .tuple #[.agg #[.bool false, .slice none 0 0, .slice none 0 0, .bool false, .slice none 0 0, .slice none 0 0], .int .i64 3]) hA rfl (.cons (res_cell hS ExL_isS_26 rfl 0 rfl (cs := [.bool false, .slice none 0 0, .slice none 0 0, .bool false, .slice none 0 0, .slice none 0 0]) rfl rfl) (.cons (res_tmp rfl) .nil)) rfl ?_
  exact ⟨none, 0, none, 0, none, 0, none, 0, rfl, ⟨(Sc.none _), (Sc.none _), (Sc.none _), (Sc.none _)⟩, hS.bel⟩
theorem divN_any {w : World} {u v x y : Rat} {a1 a2 a3 a4 : Option Addr} {ac1 ac2 ac3 ac4 : Nat} (ha : Nm w (Q6.rat u v) a1 ac1 a2 ac2 a3 ac3 a4 ac4) {u1 u2 u3 u4 : Option Addr} {uc1 uc2 uc3 uc4 : Nat} (hb : Nm w (Q6.rat x y) u1 uc1 u2 uc2 u3 uc3 u4 uc4) (hu : fitR u) (hv : fitR v) (hx : fitR x) (hy : fitR y) (hz : ¬ (x = 0 ∧ y = 0)) : Calls Try.prog 28 #[numV (Q6.rat u v) a1 ac1 a2 ac2 a3 ac3 a4 ac4, numV (Q6.rat x y) u1 uc1 u2 uc2 u3 uc3 u4 uc4] w (AnsN w (ratS ((u * x + v * y) / (x * x + y * y)) ((v * x - u * y) / (x * x + y * y)))) := by
  have k1 : (words x.num.natAbs).length ≤ 512 := hx.1
  have k2 : (words y.num.natAbs).length ≤ 512 := hy.1
  have m1 := spX_len hu hv
  have m2 := spY_len hu hv
  have m3 := spD_len hu hv
  have m4 := spX_len hx hy
  have m5 := spY_len hx hy
  have m6 := spD_len hx hy
  have n1 := ivX_len (y := spY x y) m4 m6
  have n2 := ivY_len (x := spX x y) m5 m6
  have n3 := ivD_len m4 m5
  have hS : St w w [] [(u4, words y.den), (u3, words y.num.natAbs), (u2, words x.den), (u1, words x.num.natAbs), (a4, words v.den), (a3, words v.num.natAbs), (a2, words u.den), (a1, words u.num.natAbs)] [] := ((((((((St.start w).addR ha.s1.rd).addR ha.s2.rd).addR ha.s3.rd).addR ha.s4.rd).addR hb.s1.rd).addR hb.s2.rd).addR hb.s3.rd).addR hb.s4.rd
  refine walk_of (l := [(0, .agg #[.bool (rb u.num), .slice a1 ((words u.num.natAbs).length) ac1, .slice a2 ((words u.den).length) ac2, .bool (rb v.num), .slice a3 ((words v.num.natAbs).length) ac3, .slice a4 ((words v.den).length) ac4]), (1, .agg #[.bool (rb x.num), .slice u1 ((words x.num.natAbs).length) uc1, .slice u2 ((words x.den).length) uc2, .bool (rb y.num), .slice u3 ((words y.num.natAbs).length) uc3, .slice u4 ((words y.den).length) uc4])]) Try.func28 rfl Try.ntmps28 rfl rfl ?_
  intro Q hret hnorm hP a hA
  refine wp_seq_k (fun K1 hK1 => ?_)
  refine wp_region_lit ?_
  refine seq_new (vs := [.bool (rb u.num), .slice a1 ((words u.num.natAbs).length) ac1, .slice a2 ((words u.den).length) ac2, .bool (rb v.num), .slice a3 ((words v.num.natAbs).length) ac3, .slice a4 ((words v.den).length) ac4]) (t := 26) hA hS rfl rfl rfl (fun g => .pointer (some ⟨g, 0, none⟩)) (does_box rfl rfl) rfl ?_
  intro g2 w3 hS a hA
  refine seq_new (vs := [.bool (rb x.num), .slice u1 ((words x.num.natAbs).length) uc1, .slice u2 ((words x.den).length) uc2, .bool (rb y.num), .slice u3 ((words y.num.natAbs).length) uc3, .slice u4 ((words y.den).length) uc4]) (t := 26) hA hS rfl rfl rfl (fun g => .pointer (some ⟨g, 0, none⟩)) (does_box rfl rfl) rfl ?_
  intro g4 w5 hS a hA
  refine seq_new (vs := [.bool false, .slice none 0 0, .slice none 0 0, .bool false, .slice none 0 0, .slice none 0 0]) (t := 26) hA hS rfl rfl rfl (fun g => .pointer (some ⟨g, 0, none⟩)) (does_alloc (z := .agg #[.bool false, .slice none 0 0, .slice none 0 0, .bool false, .slice none 0 0, .slice none 0 0]) (by kernel_rfl) rfl) rfl ?_
  intro g6 w7 hS a hA
  refine seq_do hA rfl rfl rfl (does_assign rfl) ?_
  intro a hA
  refine seq_end ?_
  refine hK1 _ _ ?_
  refine wp_seq_k (fun K8 hK8 => ?_)
  refine wp_seq_k (fun K9 hK9 => ?_)
  refine wp_region_lit ?_
  refine seq_do (v := .agg #[.bool (rb u.num), .slice a1 ((words u.num.natAbs).length) ac1, .slice a2 ((words u.den).length) ac2, .bool (rb v.num), .slice a3 ((words v.num.natAbs).length) ac3, .slice a4 ((words v.den).length) ac4]) hA rfl rfl rfl (does_loadS hS ExL_isS_26 rfl 2 rfl (cs := [.bool (rb u.num), .slice a1 ((words u.num.natAbs).length) ac1, .slice a2 ((words u.den).length) ac2, .bool (rb v.num), .slice a3 ((words v.num.natAbs).length) ac3, .slice a4 ((words v.den).length) ac4]) rfl rfl) ?_
  intro a hA
  refine seq_call hA rfl rfl rfl (enters_func  rfl rfl (fun w => by kernel_rfl)) (soundQ_any (show Nm _ (Q6.rat u v) a1 ac1 a2 ac2 a3 ac3 a4 ac4 from ⟨⟨(hS.rd 7 rfl), ha.s1.nil, ha.s1.cap⟩, ⟨(hS.rd 6 rfl), ha.s2.nil, ha.s2.cap⟩, ⟨(hS.rd 5 rfl), ha.s3.nil, ha.s3.cap⟩, ⟨(hS.rd 4 rfl), ha.s4.nil, ha.s4.cap⟩⟩) (lenQ_rat hu hv) (soundQ_rat hu hv)) ?_
  rintro _ w11 ⟨rfl, hb10⟩
  replace hS := hS.call hb10
  refine ⟨_, rfl, ?_⟩
  intro a hA
  refine seq_do (v := .bool false) hA rfl rfl rfl (does_un rfl un_not) ?_
  intro a hA
  refine seq_do hA rfl rfl rfl (does_move rfl) ?_
  intro a hA
  refine seq_do (v := .agg #[.bool (rb x.num), .slice u1 ((words x.num.natAbs).length) uc1, .slice u2 ((words x.den).length) uc2, .bool (rb y.num), .slice u3 ((words y.num.natAbs).length) uc3, .slice u4 ((words y.den).length) uc4]) hA rfl rfl rfl (does_loadS hS ExL_isS_26 rfl 1 rfl (cs := [.bool (rb x.num), .slice u1 ((words x.num.natAbs).length) uc1, .slice u2 ((words x.den).length) uc2, .bool (rb y.num), .slice u3 ((words y.num.natAbs).length) uc3, .slice u4 ((words y.den).length) uc4]) rfl rfl) ?_
  intro a hA
  refine seq_call hA rfl rfl rfl (enters_func  rfl rfl (fun w => by kernel_rfl)) (soundQ_any (show Nm _ (Q6.rat x y) u1 uc1 u2 uc2 u3 uc3 u4 uc4 from ⟨⟨(hS.rd 3 rfl), hb.s1.nil, hb.s1.cap⟩, ⟨(hS.rd 2 rfl), hb.s2.nil, hb.s2.cap⟩, ⟨(hS.rd 1 rfl), hb.s3.nil, hb.s3.cap⟩, ⟨(hS.rd 0 rfl), hb.s4.nil, hb.s4.cap⟩⟩) (lenQ_rat hx hy) (soundQ_rat hx hy)) ?_
  rintro _ w13 ⟨rfl, hb12⟩
  replace hS := hS.call hb12
  refine ⟨_, rfl, ?_⟩
  intro a hA
  refine seq_do (v := .bool false) hA rfl rfl rfl (does_un rfl un_not) ?_
  intro a hA
  refine seq_do (v := .bool false) hA rfl rfl rfl (does_pick rfl rfl rfl rfl) ?_
  intro a hA
  refine seq_end ?_
  refine hK9 _ _ ?_
  refine wp_cond_false (hA.ev rfl) ?_
  refine wp_skip ?_
  refine hK8 _ _ ?_
  refine wp_seq_k (fun K14 hK14 => ?_)
  refine wp_seq_k (fun K15 hK15 => ?_)
  refine wp_region_lit ?_
  refine seq_do (v := .agg #[.bool (rb x.num), .slice u1 ((words x.num.natAbs).length) uc1, .slice u2 ((words x.den).length) uc2, .bool (rb y.num), .slice u3 ((words y.num.natAbs).length) uc3, .slice u4 ((words y.den).length) uc4]) hA rfl rfl rfl (does_loadS hS ExL_isS_26 rfl 1 rfl (cs := [.bool (rb x.num), .slice u1 ((words x.num.natAbs).length) uc1, .slice u2 ((words x.den).length) uc2, .bool (rb y.num), .slice u3 ((words y.num.natAbs).length) uc3, .slice u4 ((words y.den).length) uc4]) rfl rfl) ?_
  intro a hA
  refine seq_call hA rfl rfl rfl (enters_func  rfl rfl (fun w => by kernel_rfl)) ((show Calls Try.prog 32 #[.agg #[.bool (rb x.num), .slice u1 ((words x.num.natAbs).length) uc1, .slice u2 ((words x.den).length) uc2, .bool (rb y.num), .slice u3 ((words y.num.natAbs).length) uc3, .slice u4 ((words y.den).length) uc4]] _ (fun e w' => e = .returned (.bool false) ∧ _) from (((zero_rat x y).trans (decide_eq_false hz)) ▸ isZero_any (by omega) (by omega)))) ?_
  rintro _ w17 ⟨rfl, hb16⟩
  replace hS := hS.call hb16
  refine ⟨_, rfl, ?_⟩
  intro a hA
  refine seq_end ?_
  refine hK15 _ _ ?_
  refine wp_cond_false (hA.ev rfl) ?_
  refine wp_skip ?_
  refine hK14 _ _ ?_
  refine wp_seq_k (fun K18 hK18 => ?_)
  refine wp_draw (S := fun w1 => St w w1 [(g4, [.bool (rb x.num), .slice u1 ((words x.num.natAbs).length) uc1, .slice u2 ((words x.den).length) uc2, .bool (rb y.num), .slice u3 ((words y.num.natAbs).length) uc3, .slice u4 ((words y.den).length) uc4]), (g2, [.bool (rb u.num), .slice a1 ((words u.num.natAbs).length) ac1, .slice a2 ((words u.den).length) ac2, .bool (rb v.num), .slice a3 ((words v.num.natAbs).length) ac3, .slice a4 ((words v.den).length) ac4])] [(u4, words y.den), (u3, words y.num.natAbs), (u2, words x.den), (u1, words x.num.natAbs), (a4, words v.den), (a3, words v.num.natAbs), (a2, words u.den), (a1, words u.num.natAbs)] []) (by kernel_rfl) ?_
  replace hS := hS.drew
  refine any_take (v := .agg #[.bool (rb u.num), .slice a1 ((words u.num.natAbs).length) ac1, .slice a2 ((words u.den).length) ac2, .bool (rb v.num), .slice a3 ((words v.num.natAbs).length) ac3, .slice a4 ((words v.den).length) ac4]) hA 0 rfl rfl rfl rfl (by kernel_rfl) (by kernel_rfl) (by kernel_rfl) (fun c a w h => hP c a _ _ w h) (hS.partD (.cons _ (.cons_cons _ (.cons_cons _ .slnil))) 0 rfl (.refl _)) (fun w1 hS => does_loadS hS ExL_isS_26 rfl 1 rfl (cs := [.bool (rb u.num), .slice a1 ((words u.num.natAbs).length) ac1, .slice a2 ((words u.den).length) ac2, .bool (rb v.num), .slice a3 ((words v.num.natAbs).length) ac3, .slice a4 ((words v.den).length) ac4]) rfl rfl) ?_
  intro a hA
  refine any_take (v := .agg #[.bool (rb x.num), .slice u1 ((words x.num.natAbs).length) uc1, .slice u2 ((words x.den).length) uc2, .bool (rb y.num), .slice u3 ((words y.num.natAbs).length) uc3, .slice u4 ((words y.den).length) uc4]) hA 2 rfl rfl rfl rfl (by kernel_rfl) (by kernel_rfl) (by kernel_rfl) (fun c a w h => hP c a _ _ w h) (hS.partD (.cons _ (.cons_cons _ (.cons_cons _ .slnil))) 0 rfl (.refl _)) (fun w1 hS => does_loadS hS ExL_isS_26 rfl 0 rfl (cs := [.bool (rb x.num), .slice u1 ((words x.num.natAbs).length) uc1, .slice u2 ((words x.den).length) uc2, .bool (rb y.num), .slice u3 ((words y.num.natAbs).length) uc3, .slice u4 ((words y.den).length) uc4]) rfl rfl) ?_
  intro a hA
  refine any_one (by kernel_rfl) (op_call hA 1 rfl rfl rfl rfl (enters_func  rfl rfl (fun w => by kernel_rfl)) (zspread_any (show Nm _ (Q6.rat u v) a1 ac1 a2 ac2 a3 ac3 a4 ac4 from ⟨⟨(hS.rd 7 rfl), ha.s1.nil, ha.s1.cap⟩, ⟨(hS.rd 6 rfl), ha.s2.nil, ha.s2.cap⟩, ⟨(hS.rd 5 rfl), ha.s3.nil, ha.s3.cap⟩, ⟨(hS.rd 4 rfl), ha.s4.nil, ha.s4.cap⟩⟩) hu hv) ?_)
  rintro _ w24 ⟨p19_1, p19_c1, p19_2, p19_c2, p19_3, p19_c3, rfl, hs20, hs21, hs22, hb23⟩
  replace hS := hS.call hb23
  replace hS := hS.addR hs20.rd
  replace hS := hS.addR hs21.rd
  replace hS := hS.addR hs22.rd
  refine ⟨_, rfl, (hS.partD (.cons _ (.cons_cons _ (.cons_cons _ .slnil))) 3 rfl (.refl _)), ?_⟩
  intro a hA
  refine any_one (by kernel_rfl) (op_call hA 3 rfl rfl rfl rfl (enters_func  rfl rfl (fun w => by kernel_rfl)) (zspread_any (show Nm _ (Q6.rat x y) u1 uc1 u2 uc2 u3 uc3 u4 uc4 from ⟨⟨(hS.rd 6 rfl), hb.s1.nil, hb.s1.cap⟩, ⟨(hS.rd 5 rfl), hb.s2.nil, hb.s2.cap⟩, ⟨(hS.rd 4 rfl), hb.s3.nil, hb.s3.cap⟩, ⟨(hS.rd 3 rfl), hb.s4.nil, hb.s4.cap⟩⟩) hx hy) ?_)
  rintro _ w30 ⟨p25_1, p25_c1, p25_2, p25_c2, p25_3, p25_c3, rfl, hs26, hs27, hs28, hb29⟩
  replace hS := hS.call hb29
  replace hS := hS.addR hs26.rd
  replace hS := hS.addR hs27.rd
  replace hS := hS.addR hs28.rd
  refine ⟨_, rfl, (hS.partD (.cons _ (.cons_cons _ (.cons_cons _ .slnil))) 6 rfl (.refl _)), ?_⟩
  intro a hA
  refine any_one (by kernel_rfl) (op_call hA 4 rfl rfl rfl rfl (enters_func  rfl rfl (fun w => by kernel_rfl)) (zinv_any ⟨(hS.rd 2 rfl), hs26.nil, hs26.cap⟩ ⟨(hS.rd 1 rfl), hs27.nil, hs27.cap⟩ ⟨(hS.rd 0 rfl), hs28.nil, hs28.cap⟩ (by omega) (by omega) (by omega)) ?_)
  rintro _ w36 ⟨p31_1, p31_c1, p31_2, p31_c2, p31_3, p31_c3, rfl, hs32, hs33, hs34, hb35⟩
  replace hS := hS.call hb35
  replace hS := hS.addR hs32.rd
  replace hS := hS.addR hs33.rd
  replace hS := hS.addR hs34.rd
  refine ⟨_, rfl, (hS.partD (.cons _ (.cons_cons _ (.cons_cons _ .slnil))) 9 rfl (.refl _)), ?_⟩
  intro a hA
  refine any_one (by kernel_rfl) (op_call hA 5 rfl rfl rfl rfl (enters_func  rfl rfl (fun w => by kernel_rfl)) (zproduct_any ⟨(hS.rd 8 rfl), hs20.nil, hs20.cap⟩ ⟨(hS.rd 7 rfl), hs21.nil, hs21.cap⟩ ⟨(hS.rd 6 rfl), hs22.nil, hs22.cap⟩ ⟨(hS.rd 2 rfl), hs32.nil, hs32.cap⟩ ⟨(hS.rd 1 rfl), hs33.nil, hs33.cap⟩ ⟨(hS.rd 0 rfl), hs34.nil, hs34.cap⟩ (by omega) (by omega) (by omega) (by omega) (by omega) (by omega)) ?_)
  rintro _ w42 ⟨p37_1, p37_c1, p37_2, p37_c2, p37_3, p37_c3, rfl, hs38, hs39, hs40, hb41⟩
  replace hS := hS.call hb41
  replace hS := hS.addR hs38.rd
  replace hS := hS.addR hs39.rd
  replace hS := hS.addR hs40.rd
  refine ⟨_, rfl, (hS.partD (.cons _ (.cons_cons _ (.cons_cons _ .slnil))) 12 rfl (.refl _)), ?_⟩
  intro a hA
  refine any_one (by kernel_rfl) (op_call hA 6 rfl rfl rfl rfl (enters_func  rfl rfl (fun w => by kernel_rfl)) (zsettle_as ⟨(hS.rd 2 rfl), hs38.nil, hs38.cap⟩ ⟨(hS.rd 1 rfl), hs39.nil, hs39.cap⟩ ⟨(hS.rd 0 rfl), hs40.nil, hs40.cap⟩ (set_div (spD_ne u v) (spD_ne x y) (spX_mk u v) (spY_mk u v) (spX_mk x y) (spY_mk x y) (sp_ne hz)) (Nat.le_trans (abs_add_len (Nat.le_trans (abs_mul_len m1 n1) (by decide : _ ≤ 4096)) (Nat.le_trans (neg_len (abs_mul_len m2 n2)) (by decide : _ ≤ 4096))) (by decide)) (Nat.le_trans (abs_add_len (Nat.le_trans (abs_mul_len m1 n2) (by decide : _ ≤ 4096)) (Nat.le_trans (abs_mul_len m2 n1) (by decide : _ ≤ 4096))) (by decide)) (Nat.le_trans (words_mul_length m3 n3) (by decide)) (Nat.mul_ne_zero (spD_ne u v) (ivD_ne (sp_ne hz)))) ?_)
  rintro _ w46 ⟨p43_1, p43_c1, p43_2, p43_c2, p43_3, p43_c3, p43_4, p43_c4, rfl, hn44, hb45⟩
  replace hS := hS.call hb45
  replace hS := hS.addR hn44.s1.rd
  replace hS := hS.addR hn44.s2.rd
  replace hS := hS.addR hn44.s3.rd
  replace hS := hS.addR hn44.s4.rd
  refine ⟨_, rfl, (hS.partD (.cons _ (.cons_cons _ (.cons_cons _ .slnil))) 16 rfl (.refl _)), ?_⟩
  intro a hA
  refine any_take (v := .agg #[.bool ((ratS ((u * x + v * y) / (x * x + y * y)) ((v * x - u * y) / (x * x + y * y))).1.b1), .slice p43_1 (((ratS ((u * x + v * y) / (x * x + y * y)) ((v * x - u * y) / (x * x + y * y))).1.t1).length) p43_c1, .slice p43_2 (((ratS ((u * x + v * y) / (x * x + y * y)) ((v * x - u * y) / (x * x + y * y))).1.q1).length) p43_c2, .bool ((ratS ((u * x + v * y) / (x * x + y * y)) ((v * x - u * y) / (x * x + y * y))).1.b2), .slice p43_3 (((ratS ((u * x + v * y) / (x * x + y * y)) ((v * x - u * y) / (x * x + y * y))).1.t2).length) p43_c3, .slice p43_4 (((ratS ((u * x + v * y) / (x * x + y * y)) ((v * x - u * y) / (x * x + y * y))).1.q2).length) p43_c4]) hA 7 rfl rfl rfl rfl (by kernel_rfl) (by kernel_rfl) (by kernel_rfl) (fun c a w h => hP c a _ _ w h) (hS.partD (.cons _ (.cons_cons _ (.cons_cons _ .slnil))) 16 rfl (.refl _)) (fun w1 hS => does_extract (vs := [.agg #[.bool ((ratS ((u * x + v * y) / (x * x + y * y)) ((v * x - u * y) / (x * x + y * y))).1.b1), .slice p43_1 (((ratS ((u * x + v * y) / (x * x + y * y)) ((v * x - u * y) / (x * x + y * y))).1.t1).length) p43_c1, .slice p43_2 (((ratS ((u * x + v * y) / (x * x + y * y)) ((v * x - u * y) / (x * x + y * y))).1.q1).length) p43_c2, .bool ((ratS ((u * x + v * y) / (x * x + y * y)) ((v * x - u * y) / (x * x + y * y))).1.b2), .slice p43_3 (((ratS ((u * x + v * y) / (x * x + y * y)) ((v * x - u * y) / (x * x + y * y))).1.t2).length) p43_c3, .slice p43_4 (((ratS ((u * x + v * y) / (x * x + y * y)) ((v * x - u * y) / (x * x + y * y))).1.q2).length) p43_c4], .int .i64 ((ratS ((u * x + v * y) / (x * x + y * y)) ((v * x - u * y) / (x * x + y * y))).2)]) rfl rfl) ?_
  intro a hA
  refine any_take (v := .int .i64 ((ratS ((u * x + v * y) / (x * x + y * y)) ((v * x - u * y) / (x * x + y * y))).2)) hA 8 rfl rfl rfl rfl (by kernel_rfl) (by kernel_rfl) (by kernel_rfl) (fun c a w h => hP c a _ _ w h) (hS.partD (.cons _ (.cons_cons _ (.cons_cons _ .slnil))) 16 rfl (.refl _)) (fun w1 hS => does_extract (vs := [.agg #[.bool ((ratS ((u * x + v * y) / (x * x + y * y)) ((v * x - u * y) / (x * x + y * y))).1.b1), .slice p43_1 (((ratS ((u * x + v * y) / (x * x + y * y)) ((v * x - u * y) / (x * x + y * y))).1.t1).length) p43_c1, .slice p43_2 (((ratS ((u * x + v * y) / (x * x + y * y)) ((v * x - u * y) / (x * x + y * y))).1.q1).length) p43_c2, .bool ((ratS ((u * x + v * y) / (x * x + y * y)) ((v * x - u * y) / (x * x + y * y))).1.b2), .slice p43_3 (((ratS ((u * x + v * y) / (x * x + y * y)) ((v * x - u * y) / (x * x + y * y))).1.t2).length) p43_c3, .slice p43_4 (((ratS ((u * x + v * y) / (x * x + y * y)) ((v * x - u * y) / (x * x + y * y))).1.q2).length) p43_c4], .int .i64 ((ratS ((u * x + v * y) / (x * x + y * y)) ((v * x - u * y) / (x * x + y * y))).2)]) rfl rfl) ?_
  intro a hA
  refine any_one (by kernel_rfl) (op_store (us := [.bool ((ratS ((u * x + v * y) / (x * x + y * y)) ((v * x - u * y) / (x * x + y * y))).1.b1), .slice p43_1 (((ratS ((u * x + v * y) / (x * x + y * y)) ((v * x - u * y) / (x * x + y * y))).1.t1).length) p43_c1, .slice p43_2 (((ratS ((u * x + v * y) / (x * x + y * y)) ((v * x - u * y) / (x * x + y * y))).1.q1).length) p43_c2, .bool ((ratS ((u * x + v * y) / (x * x + y * y)) ((v * x - u * y) / (x * x + y * y))).1.b2), .slice p43_3 (((ratS ((u * x + v * y) / (x * x + y * y)) ((v * x - u * y) / (x * x + y * y))).1.t2).length) p43_c3, .slice p43_4 (((ratS ((u * x + v * y) / (x * x + y * y)) ((v * x - u * y) / (x * x + y * y))).1.q2).length) p43_c4]) hA hS 9 rfl rfl rfl (sets_store (cs := [.bool ((ratS ((u * x + v * y) / (x * x + y * y)) ((v * x - u * y) / (x * x + y * y))).1.b1), .slice p43_1 (((ratS ((u * x + v * y) / (x * x + y * y)) ((v * x - u * y) / (x * x + y * y))).1.t1).length) p43_c1, .slice p43_2 (((ratS ((u * x + v * y) / (x * x + y * y)) ((v * x - u * y) / (x * x + y * y))).1.q1).length) p43_c2, .bool ((ratS ((u * x + v * y) / (x * x + y * y)) ((v * x - u * y) / (x * x + y * y))).1.b2), .slice p43_3 (((ratS ((u * x + v * y) / (x * x + y * y)) ((v * x - u * y) / (x * x + y * y))).1.t2).length) p43_c3, .slice p43_4 (((ratS ((u * x + v * y) / (x * x + y * y)) ((v * x - u * y) / (x * x + y * y))).1.q2).length) p43_c4]) rfl rfl rfl (by kernel_rfl) hS 0 rfl rfl rfl) 0 rfl rfl rfl rfl ?_)
  intro w47 hS
  refine ⟨(hS.partD (.cons _ (.cons_cons _ (.cons_cons _ .slnil))) 16 rfl (.refl _)), ?_⟩
  refine any_take hA 10 rfl rfl rfl rfl (by kernel_rfl) (by kernel_rfl) (by kernel_rfl) (fun c a w h => hP c a _ _ w h) (hS.partD (.cons _ (.cons_cons _ (.cons_cons _ .slnil))) 16 rfl (.refl _)) (fun w1 hS => does_assign rfl) ?_
  intro a hA
  refine any_end (by kernel_rfl) ?_
  refine hK18 _ _ ?_
  refine wp_ret ?_
  refine hret _ _ ?_
  refine ends (v := .tuple #[.agg #[.bool ((ratS ((u * x + v * y) / (x * x + y * y)) ((v * x - u * y) / (x * x + y * y))).1.b1), .slice p43_1 (((ratS ((u * x + v * y) / (x * x + y * y)) ((v * x - u * y) / (x * x + y * y))).1.t1).length) p43_c1, .slice p43_2 (((ratS ((u * x + v * y) / (x * x + y * y)) ((v * x - u * y) / (x * x + y * y))).1.q1).length) p43_c2, .bool ((ratS ((u * x + v * y) / (x * x + y * y)) ((v * x - u * y) / (x * x + y * y))).1.b2), .slice p43_3 (((ratS ((u * x + v * y) / (x * x + y * y)) ((v * x - u * y) / (x * x + y * y))).1.t2).length) p43_c3, .slice p43_4 (((ratS ((u * x + v * y) / (x * x + y * y)) ((v * x - u * y) / (x * x + y * y))).1.q2).length) p43_c4], .int .i64 ((ratS ((u * x + v * y) / (x * x + y * y)) ((v * x - u * y) / (x * x + y * y))).2)]) hA rfl (.cons (res_cell hS ExL_isS_26 rfl 0 rfl (cs := [.bool ((ratS ((u * x + v * y) / (x * x + y * y)) ((v * x - u * y) / (x * x + y * y))).1.b1), .slice p43_1 (((ratS ((u * x + v * y) / (x * x + y * y)) ((v * x - u * y) / (x * x + y * y))).1.t1).length) p43_c1, .slice p43_2 (((ratS ((u * x + v * y) / (x * x + y * y)) ((v * x - u * y) / (x * x + y * y))).1.q1).length) p43_c2, .bool ((ratS ((u * x + v * y) / (x * x + y * y)) ((v * x - u * y) / (x * x + y * y))).1.b2), .slice p43_3 (((ratS ((u * x + v * y) / (x * x + y * y)) ((v * x - u * y) / (x * x + y * y))).1.t2).length) p43_c3, .slice p43_4 (((ratS ((u * x + v * y) / (x * x + y * y)) ((v * x - u * y) / (x * x + y * y))).1.q2).length) p43_c4]) rfl rfl) (.cons (res_tmp rfl) .nil)) rfl ?_
  exact ⟨p43_1, p43_c1, p43_2, p43_c2, p43_3, p43_c3, p43_4, p43_c4, rfl, ⟨⟨(hS.rd 3 rfl), hn44.s1.nil, hn44.s1.cap⟩, ⟨(hS.rd 2 rfl), hn44.s2.nil, hn44.s2.cap⟩, ⟨(hS.rd 1 rfl), hn44.s3.nil, hn44.s3.cap⟩, ⟨(hS.rd 0 rfl), hn44.s4.nil, hn44.s4.cap⟩⟩, hS.bel⟩
theorem divQ_any {w : World} {p q : Q6} {a1 a2 a3 a4 : Option Addr} {ac1 ac2 ac3 ac4 : Nat} (ha : Nm w p a1 ac1 a2 ac2 a3 ac3 a4 ac4) (hl : LenQ p) {u1 u2 u3 u4 : Option Addr} {uc1 uc2 uc3 uc4 : Nat} (hb : Nm w q u1 uc1 u2 uc2 u3 uc3 u4 uc4) (hm : LenQ q) : Calls Try.prog 28 #[numV p a1 ac1 a2 ac2 a3 ac3 a4 ac4, numV q u1 uc1 u2 uc2 u3 uc3 u4 uc4] w (AnsN w (divQ p q)) := by
  rcases sound_cases ha with h1 | ⟨u, v, rfl, hu, hv⟩
  · rw [show divQ p q = (Q6.zero, 2) from if_neg (fun k => by rw [h1] at k; cases k.1)]
    exact divE1_any ha hl hb hm h1
  · rcases sound_cases hb with h2 | ⟨x, y, rfl, hx, hy⟩
    · rw [show divQ _ q = (Q6.zero, 2) from if_neg (fun k => by rw [h2] at k; cases k.2)]
      exact divE2_any ha hl hb hm (soundQ_rat hu hv) h2
    · by_cases hz : x = 0 ∧ y = 0
      · rw [divQ_zero hu hv hx hy hz]
        exact divZ_any ha hb hu hv hx hy hz
      · rw [divQ_rat hu hv hx hy hz]
        exact divN_any ha hb hu hv hx hy hz
end Go.Proofs.Ytmibkfihcihphaa
namespace Go.Proofs.Ytmibkfihcihphaa
open Go.RowKit
set_option linter.unusedVariables false
set_option linter.unusedSimpArgs false
section
variable {P : Program} {t : TypeId} {x y : Operand} {a b : ByteArray}
end
/-- An operation whose guard was passed over itself. -/
def staysU (l : List (Nat × Value)) (ops : List Oper) (o : Oper) : Bool :=
  match o.guard with
  | none => false
  | some (j, b) => match ops[j]? with
    | some oj => match oj.dst with
      | some d => match look l d with
        | some (.bool _) => false
        | some _ => true
        | none => false
      | none => false
    | none => false
section
variable {P : Program} {ops : List Oper} {Q : Exit → Act → World → Prop} {a : Act} {w w' : World} {n : Nat} {l : List (Nat × Value)} {o : Oper} {v : Value} {rest : List Oper}
theorem Sl.unwantedU (h : Sl a n l) (hp : staysU l ops o = true) : Region.wanted o (yielded ops.toArray a.tmps) = false := by
  unfold Region.wanted
  unfold staysU at hp
  split at hp
  · cases hp
  · rename_i j b hg
    rw [hg]
    split at hp
    · rename_i oj hj
      split at hp
      · rename_i d hd
        split at hp
        · cases hp
        · rename_i v' hb hv
          have := h.holds d _ hv
          cases v' <;> first | (exact absurd rfl (hb _)) | simp [yielded, hj, hd, this]
        · cases hp
      · cases hp
    · cases hp
theorem seq_skipU (hA : Sl a n l) (hg : staysU l ops o = true) {d : Nat} (hdst : o.dst = some d) (hd : Nat.blt d n = true)
    (hk : ∀ a', Sl a' n ((d, undef) :: l) → wpList P ops.toArray Q rest a' w) : wpList P ops.toArray Q (o :: rest) a w := by
  unfold wpList
  rw [hA.unwantedU hg, if_neg (by simp), hdst]
  exact hk _ (hA.put hd undef)
end
theorem words_digit {d : Nat} (h0 : d ≠ 0) (h : d < 4294967296) : words d = [d] := by
  rw [words_pos (by omega), Nat.mod_eq_of_lt h, Nat.div_eq_of_lt h, words_zero]
theorem textS_digit {d : Nat} (h0 : d ≠ 0) (h : d < 10) : textS [d] 10 = (bytesOf [48 + d], 0) := by
  have e := words_digit h0 (by omega)
  have hs : sound [d] = true := by rw [← e]; exact sound_of_words (by rw [e]; simp)
  have hv : val [d] = d := by rw [← e, val_words]
  unfold textS
  rw [hs, hv, if_pos rfl, if_pos (by decide), if_neg h0]
  have hd : digs 10 d = [d] := by
    rw [digs, dif_neg (by omega), digs, dif_pos (by omega), Nat.mod_eq_of_lt h]
  show (txt 10 d, (0 : Int)) = _
  unfold txt
  rw [hd]
  simp [dch, h]
theorem rat_whole {b : Bool} {x : Nat} (h : b.toNat ≤ x) : Q6.whole b x = Q6.rat ((sgn b x : Int) : Rat) 0 := by
  unfold Q6.whole Q6.rat
  rw [Rat.num_intCast, Rat.den_intCast, sgn_abs, words_one, show (0 : Rat).num = 0 from rfl, show (0 : Rat).den = 1 from rfl, words_one, show Int.natAbs 0 = 0 from rfl, words_zero, show rb 0 = false from rfl]
  have e : rb (sgn b x) = b := by
    unfold rb
    rw [sgn_neg]
    cases b with
    | false => rfl
    | true => simp at h; simp; omega
  rw [e]
theorem fitR_whole {b : Bool} {x : Nat} (h : (words x).length ≤ 512) : fitR ((sgn b x : Int) : Rat) := by
  unfold fitR
  rw [Rat.num_intCast, Rat.den_intCast, sgn_abs]
  exact ⟨h, one_len⟩
theorem fitR_zero : fitR 0 := by
  unfold fitR
  rw [show (0 : Rat).num = 0 from rfl, show (0 : Rat).den = 1 from rfl, show Int.natAbs 0 = 0 from rfl, words_zero]
  exact ⟨by decide, one_len⟩
/-- Minus three halves. -/
def Q6.half : Q6 := ⟨true, [3], [2], false, [], [1]⟩
def mh : Rat := mkRat (-3) 2
theorem half_rat : Q6.half = Q6.rat mh 0 := by
  unfold Q6.half Q6.rat
  rw [show mh.num = -3 from by decide +kernel, show mh.den = 2 from by decide +kernel, show (0 : Rat).num = 0 from rfl, show (0 : Rat).den = 1 from rfl, show Int.natAbs (-3) = 3 from rfl, show Int.natAbs 0 = 0 from rfl, words_zero, words_one, words_digit (d := 3) (by decide) (by decide), words_digit (d := 2) (by decide) (by decide)]
  rfl
theorem fit_mh : fitR mh := by
  unfold fitR
  rw [show mh.num = -3 from by decide +kernel, show mh.den = 2 from by decide +kernel, show Int.natAbs (-3) = 3 from rfl, words_digit (d := 3) (by decide) (by decide), words_digit (d := 2) (by decide) (by decide)]
  exact ⟨by decide, by decide⟩
theorem awake_div : divQ (Q6.whole false 6) (Q6.whole true 4) = (Q6.half, 0) := by
  have h6 : (words 6).length ≤ 512 := by rw [words_digit (by decide) (by decide)]; decide
  have h4 : (words 4).length ≤ 512 := by rw [words_digit (by decide) (by decide)]; decide
  rw [rat_whole (b := false) (x := 6) (by decide), rat_whole (b := true) (x := 4) (by decide), divQ_rat (fitR_whole h6) fitR_zero (fitR_whole h4) fitR_zero (fun h => by have := h.1; revert this; decide +kernel)]
  have e1 : ((((sgn false 6 : Int) : Rat) * ((sgn true 4 : Int) : Rat) + 0 * 0) / (((sgn true 4 : Int) : Rat) * ((sgn true 4 : Int) : Rat) + 0 * 0)) = mh := by decide +kernel
  have e2 : ((0 * ((sgn true 4 : Int) : Rat) - ((sgn false 6 : Int) : Rat) * 0) / (((sgn true 4 : Int) : Rat) * ((sgn true 4 : Int) : Rat) + 0 * 0)) = 0 := by decide +kernel
  rw [e1, e2, half_rat]
  unfold ratS
  rw [if_pos ⟨fit_mh, fitR_zero⟩]
theorem lenQ_half : LenQ Q6.half := ⟨by decide, by decide, by decide, by decide⟩
theorem sound_half : soundQ Q6.half = true := by rw [half_rat]; exact soundQ_rat fit_mh fitR_zero
theorem six_len : (words 6).length ≤ 512 := by rw [words_digit (by decide) (by decide)]; decide
theorem four_len : (words 4).length ≤ 512 := by rw [words_digit (by decide) (by decide)]; decide
end Go.Proofs.Ytmibkfihcihphaa
namespace Go.Proofs.Ytmibkfihcihphaa
open Go.RowKit
set_option linter.unusedVariables false
set_option linter.unusedSimpArgs false
set_option maxRecDepth 100000
theorem ExM_is1_22 : Is1 Try.prog 22 := ⟨⟨_, Try.underlying22, rfl⟩, by kernel_rfl⟩
theorem ExM_is1_4 : Is1 Try.prog 4 := ⟨⟨_, Try.underlying4, rfl⟩, by kernel_rfl⟩
theorem ExM_fld_24_0 : FieldAt Try.prog 24 0 0 := ⟨_, _, Try.underlying24, rfl, rfl, by kernel_rfl⟩
theorem ExM_fld_24_1 : FieldAt Try.prog 24 1 1 := ⟨_, _, Try.underlying24, rfl, rfl, by kernel_rfl⟩
theorem ExM_fld_24_2 : FieldAt Try.prog 24 2 2 := ⟨_, _, Try.underlying24, rfl, rfl, by kernel_rfl⟩
theorem ExM_fld_26_0 : FieldAt Try.prog 26 0 0 := ⟨_, _, Try.underlying26, rfl, rfl, by kernel_rfl⟩
theorem ExM_isS_24 : IsS Try.prog 24 3 := ⟨⟨_, Try.underlying24⟩, by kernel_rfl⟩
theorem ExM_isS_26 : IsS Try.prog 26 6 := ⟨⟨_, Try.underlying26⟩, by kernel_rfl⟩
theorem size32_any {w : World} {a1 a2 : Option Addr} {ac1 ac2 : Nat} (ha1 : Sc w a1 ac1 [3]) (ha2 : Sc w a2 ac2 [2]) : Calls Try.prog 94 #[.agg #[.bool true, .slice a1 1 ac1, .slice a2 1 ac2], .int .i64 10] w fun e w' => e = .returned (.string ⟨#[51, 47, 50]⟩) ∧ Below w.heap.size w w' := by
  have hS : St w w [] [(a2, [2]), (a1, [3])] [] := ((St.start w).addR ha1.rd).addR ha2.rd
  refine walk_of (l := [(0, .agg #[.bool true, .slice a1 1 ac1, .slice a2 1 ac2]), (1, .int .i64 10)]) Try.func94 rfl Try.ntmps94 rfl rfl ?_
  intro Q hret hnorm hP a hA
  refine wp_seq_k (fun K1 hK1 => ?_)
  refine wp_region_lit ?_
  refine seq_new (vs := [.bool true, .slice a1 1 ac1, .slice a2 1 ac2]) (t := 24) hA hS rfl rfl rfl (fun g => .pointer (some ⟨g, 0, none⟩)) (does_box rfl rfl) rfl ?_
  intro g2 w3 hS a hA
  refine seq_do hA rfl rfl rfl (does_assign rfl) ?_
  intro a hA
  refine seq_end ?_
  refine hK1 _ _ ?_
  refine wp_seq_k (fun K4 hK4 => ?_)
  refine wp_region_lit ?_
  refine seq_do (v := .pointer (some ⟨g2, 1, none⟩)) hA rfl rfl rfl (does_field ExM_fld_24_1 rfl rfl) ?_
  intro a hA
  refine seq_do hA rfl rfl rfl (does_load1 hS ExM_is1_22 rfl 0 rfl rfl) ?_
  intro a hA
  refine seq_do hA rfl rfl rfl (does_move rfl) ?_
  intro a hA
  refine seq_call hA rfl rfl rfl (enters_func  rfl rfl (fun w => by kernel_rfl)) ((by have h := text_any (a := [3]) ac1 10 (hS.rd 1 rfl) (by decide) (by decide) (by decide); rw [textS_digit (by decide) (by decide)] at h; exact h)) ?_
  rintro _ w6 ⟨rfl, hb5⟩
  replace hS := hS.call hb5
  refine ⟨_, rfl, ?_⟩
  intro a hA
  refine seq_do hA rfl rfl rfl (does_move rfl) ?_
  intro a hA
  refine seq_do (v := .string (⟨#[51]⟩)) hA rfl rfl rfl (does_extract (vs := [.string (⟨#[51]⟩), .int .i64 0]) rfl rfl) ?_
  intro a hA
  refine seq_do (v := .int .i64 0) hA rfl rfl rfl (does_extract (vs := [.string (⟨#[51]⟩), .int .i64 0]) rfl rfl) ?_
  intro a hA
  refine seq_do hA rfl rfl rfl (does_assign rfl) ?_
  intro a hA
  refine seq_do hA rfl rfl rfl (does_assign rfl) ?_
  intro a hA
  refine seq_end ?_
  refine hK4 _ _ ?_
  refine wp_seq_k (fun K7 hK7 => ?_)
  refine wp_seq_k (fun K8 hK8 => ?_)
  refine wp_region_lit ?_
  refine seq_do (v := .pointer (some ⟨g2, 2, none⟩)) hA rfl rfl rfl (does_field ExM_fld_24_2 rfl rfl) ?_
  intro a hA
  refine seq_do hA rfl rfl rfl (does_load1 hS ExM_is1_22 rfl 0 rfl rfl) ?_
  intro a hA
  refine seq_call hA rfl rfl rfl (enters_func  rfl rfl (fun w => by kernel_rfl)) (isOneQ_any _ (hS.rd 0 rfl) (by decide) (show decide ([2] = [1]) = false from by decide)) ?_
  rintro _ w10 ⟨rfl, hb9⟩
  replace hb9 := below_eq hb9
  replace hS := hS.call hb9
  refine ⟨_, rfl, ?_⟩
  intro a hA
  refine seq_end ?_
  refine hK8 _ _ ?_
  refine wp_cond_false (hA.ev rfl) ?_
  refine wp_skip ?_
  refine hK7 _ _ ?_
  refine wp_seq_k (fun K11 hK11 => ?_)
  refine wp_region_lit ?_
  refine seq_do (v := .pointer (some ⟨g2, 2, none⟩)) hA rfl rfl rfl (does_field ExM_fld_24_2 rfl rfl) ?_
  intro a hA
  refine seq_do hA rfl rfl rfl (does_load1 hS ExM_is1_22 rfl 0 rfl rfl) ?_
  intro a hA
  refine seq_do hA rfl rfl rfl (does_move rfl) ?_
  intro a hA
  refine seq_call hA rfl rfl rfl (enters_func  rfl rfl (fun w => by kernel_rfl)) ((by have h := text_any (a := [2]) ac2 10 (hS.rd 0 rfl) (by decide) (by decide) (by decide); rw [textS_digit (by decide) (by decide)] at h; exact h)) ?_
  rintro _ w13 ⟨rfl, hb12⟩
  replace hS := hS.call hb12
  refine ⟨_, rfl, ?_⟩
  intro a hA
  refine seq_do hA rfl rfl rfl (does_move rfl) ?_
  intro a hA
  refine seq_do (v := .string (⟨#[50]⟩)) hA rfl rfl rfl (does_extract (vs := [.string (⟨#[50]⟩), .int .i64 0]) rfl rfl) ?_
  intro a hA
  refine seq_do (v := .int .i64 0) hA rfl rfl rfl (does_extract (vs := [.string (⟨#[50]⟩), .int .i64 0]) rfl rfl) ?_
  intro a hA
  refine seq_do hA rfl rfl rfl (does_assign rfl) ?_
  intro a hA
  refine seq_do hA rfl rfl rfl (does_assign rfl) ?_
  intro a hA
  refine seq_end ?_
  refine hK11 _ _ ?_
  refine wp_seq_k (fun K14 hK14 => ?_)
  refine wp_region_lit ?_
  refine seq_do hA rfl rfl rfl (does_move rfl) ?_
  intro a hA
  refine seq_do (v := .string (⟨#[51, 47]⟩)) hA rfl rfl rfl (does_bin rfl rfl (fun w => by kernel_rfl)) ?_
  intro a hA
  refine seq_do hA rfl rfl rfl (does_move rfl) ?_
  intro a hA
  refine seq_do (v := .string (⟨#[51, 47, 50]⟩)) hA rfl rfl rfl (does_bin rfl rfl (fun w => by kernel_rfl)) ?_
  intro a hA
  refine seq_do hA rfl rfl rfl (does_assign rfl) ?_
  intro a hA
  refine seq_end ?_
  refine hK14 _ _ ?_
  refine wp_ret ?_
  refine hret _ _ ?_
  refine ends (v := .string (⟨#[51, 47, 50]⟩)) hA rfl (.cons (res_tmp rfl) .nil) rfl ?_
  exact ⟨rfl, hS.bel⟩
theorem real32_any {w : World} {a1 a2 : Option Addr} {ac1 ac2 : Nat} (ha1 : Sc w a1 ac1 [3]) (ha2 : Sc w a2 ac2 [2]) : Calls Try.prog 64 #[.agg #[.bool true, .slice a1 1 ac1, .slice a2 1 ac2], .int .i64 10] w fun e w' => e = .returned (.string ⟨#[45, 51, 47, 50]⟩) ∧ Below w.heap.size w w' := by
  have hS : St w w [] [(a2, [2]), (a1, [3])] [] := ((St.start w).addR ha1.rd).addR ha2.rd
  refine walk_of (l := [(0, .agg #[.bool true, .slice a1 1 ac1, .slice a2 1 ac2]), (1, .int .i64 10)]) Try.func64 rfl Try.ntmps64 rfl rfl ?_
  intro Q hret hnorm hP a hA
  refine wp_seq_k (fun K1 hK1 => ?_)
  refine wp_region_lit ?_
  refine seq_new (vs := [.bool true, .slice a1 1 ac1, .slice a2 1 ac2]) (t := 24) hA hS rfl rfl rfl (fun g => .pointer (some ⟨g, 0, none⟩)) (does_box rfl rfl) rfl ?_
  intro g2 w3 hS a hA
  refine seq_do hA rfl rfl rfl (does_assign rfl) ?_
  intro a hA
  refine seq_end ?_
  refine hK1 _ _ ?_
  refine wp_seq_k (fun K4 hK4 => ?_)
  refine wp_seq_k (fun K5 hK5 => ?_)
  refine wp_region_lit ?_
  refine seq_do (v := .pointer (some ⟨g2, 0, none⟩)) hA rfl rfl rfl (does_field ExM_fld_24_0 rfl rfl) ?_
  intro a hA
  refine seq_do hA rfl rfl rfl (does_load1 hS ExM_is1_4 rfl 0 rfl rfl) ?_
  intro a hA
  refine seq_end ?_
  refine hK5 _ _ ?_
  refine wp_cond_true (hA.ev rfl) ?_
  refine wp_seq_k (fun K6 hK6 => ?_)
  refine wp_region_lit ?_
  refine seq_do (v := .agg #[.bool true, .slice a1 1 ac1, .slice a2 1 ac2]) hA rfl rfl rfl (does_loadS hS ExM_isS_24 rfl 0 rfl (cs := [.bool true, .slice a1 1 ac1, .slice a2 1 ac2]) rfl rfl) ?_
  intro a hA
  refine seq_do hA rfl rfl rfl (does_move rfl) ?_
  intro a hA
  refine seq_call hA rfl rfl rfl (enters_func  rfl rfl (fun w => by kernel_rfl)) (size32_any ⟨(hS.rd 1 rfl), ha1.nil, ha1.cap⟩ ⟨(hS.rd 0 rfl), ha2.nil, ha2.cap⟩) ?_
  rintro _ w8 ⟨rfl, hb7⟩
  replace hS := hS.call hb7
  refine ⟨_, rfl, ?_⟩
  intro a hA
  refine seq_do (v := .string (⟨#[45, 51, 47, 50]⟩)) hA rfl rfl rfl (does_bin rfl rfl (fun w => by kernel_rfl)) ?_
  intro a hA
  refine seq_do hA rfl rfl rfl (does_assign rfl) ?_
  intro a hA
  refine seq_end ?_
  refine hK6 _ _ ?_
  refine wp_ret ?_
  refine hret _ _ ?_
  refine ends (v := .string (⟨#[45, 51, 47, 50]⟩)) hA rfl (.cons (res_tmp rfl) .nil) rfl ?_
  exact ⟨rfl, hS.bel⟩
theorem radix10_any {w : World} : Calls Try.prog 63 #[.int .i64 10] w fun e w' => e = .returned (.bool true) ∧ Below w.heap.size w w' := by
  have hS : St w w [] [] [] := St.start w
  refine walk_of (l := [(0, .int .i64 10)]) Try.func63 rfl Try.ntmps63 rfl rfl ?_
  intro Q hret hnorm hP a hA
  refine wp_seq_k (fun K1 hK1 => ?_)
  refine wp_region_lit ?_
  refine seq_do hA rfl rfl rfl (does_assign rfl) ?_
  intro a hA
  refine seq_end ?_
  refine hK1 _ _ ?_
  refine wp_seq_k (fun K2 hK2 => ?_)
  refine wp_seq_k (fun K3 hK3 => ?_)
  refine wp_region_lit ?_
  refine seq_do hA rfl rfl rfl (does_move rfl) ?_
  intro a hA
  refine seq_end ?_
  refine hK3 _ _ ?_
  refine wp_block ?_
  refine wp_seq_k (fun K4 hK4 => ?_)
  refine wp_seq_k (fun K5 hK5 => ?_)
  refine wp_region_lit ?_
  refine seq_do (v := .bool false) hA rfl rfl rfl (does_bin rfl rfl (fun w => by kernel_rfl)) ?_
  intro a hA
  refine seq_do hA rfl rfl rfl (does_assign rfl) ?_
  intro a hA
  refine seq_end ?_
  refine hK5 _ _ ?_
  refine wp_cond_false (hA.ev rfl) ?_
  refine wp_seq_k (fun K6 hK6 => ?_)
  refine wp_region_lit ?_
  refine seq_do (v := .bool false) hA rfl rfl rfl (does_bin rfl rfl (fun w => by kernel_rfl)) ?_
  intro a hA
  refine seq_do hA rfl rfl rfl (does_assign rfl) ?_
  intro a hA
  refine seq_end ?_
  refine hK6 _ _ ?_
  refine wp_cond_false (hA.ev rfl) ?_
  refine wp_seq_k (fun K7 hK7 => ?_)
  refine wp_region_lit ?_
  refine seq_do (v := .bool true) hA rfl rfl rfl (does_bin rfl rfl (fun w => by kernel_rfl)) ?_
  intro a hA
  refine seq_do hA rfl rfl rfl (does_assign rfl) ?_
  intro a hA
  refine seq_end ?_
  refine hK7 _ _ ?_
  refine wp_cond_true (hA.ev rfl) ?_
  refine wp_skip ?_
  refine hK4 _ _ ?_
  refine wp_cond_true (hA.ev rfl) ?_
  refine wp_seq_k (fun K8 hK8 => ?_)
  refine wp_region_lit ?_
  refine seq_do hA rfl rfl rfl (does_assign rfl) ?_
  intro a hA
  refine seq_end ?_
  refine hK8 _ _ ?_
  refine wp_ret ?_
  refine hret _ _ ?_
  refine ends (v := .bool true) hA rfl (.cons (res_tmp rfl) .nil) rfl ?_
  exact ⟨rfl, hS.bel⟩
theorem text32_any {w : World} {a1 a2 a3 a4 : Option Addr} {ac1 ac2 ac3 ac4 : Nat} (ha : Nm w Q6.half a1 ac1 a2 ac2 a3 ac3 a4 ac4) : Calls Try.prog 29 #[numV Q6.half a1 ac1 a2 ac2 a3 ac3 a4 ac4, .int .i64 10] w fun e w' => e = .returned (.tuple #[.string ⟨#[45, 51, 47, 50]⟩, .int .i64 0]) ∧ Below w.heap.size w w' := by
  have hS : St w w [] [(a4, [1]), (a3, []), (a2, [2]), (a1, [3])] [] := ((((St.start w).addR ha.s1.rd).addR ha.s2.rd).addR ha.s3.rd).addR ha.s4.rd
  refine walk_of (l := [(0, .agg #[.bool true, .slice a1 1 ac1, .slice a2 1 ac2, .bool false, .slice a3 0 ac3, .slice a4 1 ac4]), (1, .int .i64 10)]) Try.func29 rfl Try.ntmps29 rfl rfl ?_
  intro Q hret hnorm hP a hA
  refine wp_seq_k (fun K1 hK1 => ?_)
  refine wp_region_lit ?_
  refine seq_new (vs := [.bool true, .slice a1 1 ac1, .slice a2 1 ac2, .bool false, .slice a3 0 ac3, .slice a4 1 ac4]) (t := 26) hA hS rfl rfl rfl (fun g => .pointer (some ⟨g, 0, none⟩)) (does_box rfl rfl) rfl ?_
  intro g2 w3 hS a hA
  refine seq_do hA rfl rfl rfl (does_assign rfl) ?_
  intro a hA
  refine seq_do hA rfl rfl rfl (does_assign rfl) ?_
  intro a hA
  refine seq_end ?_
  refine hK1 _ _ ?_
  refine wp_seq_k (fun K4 hK4 => ?_)
  refine wp_seq_k (fun K5 hK5 => ?_)
  refine wp_region_lit ?_
  refine seq_do (v := .agg #[.bool true, .slice a1 1 ac1, .slice a2 1 ac2, .bool false, .slice a3 0 ac3, .slice a4 1 ac4]) hA rfl rfl rfl (does_loadS hS ExM_isS_26 rfl 0 rfl (cs := [.bool true, .slice a1 1 ac1, .slice a2 1 ac2, .bool false, .slice a3 0 ac3, .slice a4 1 ac4]) rfl rfl) ?_
  intro a hA
  refine seq_call hA rfl rfl rfl (enters_func  rfl rfl (fun w => by kernel_rfl)) (soundQ_any (show Nm _ Q6.half a1 ac1 a2 ac2 a3 ac3 a4 ac4 from ⟨⟨(hS.rd 3 rfl), ha.s1.nil, ha.s1.cap⟩, ⟨(hS.rd 2 rfl), ha.s2.nil, ha.s2.cap⟩, ⟨(hS.rd 1 rfl), ha.s3.nil, ha.s3.cap⟩, ⟨(hS.rd 0 rfl), ha.s4.nil, ha.s4.cap⟩⟩) lenQ_half sound_half) ?_
  rintro _ w7 ⟨rfl, hb6⟩
  replace hS := hS.call hb6
  refine ⟨_, rfl, ?_⟩
  intro a hA
  refine seq_do (v := .bool false) hA rfl rfl rfl (does_un rfl un_not) ?_
  intro a hA
  refine seq_end ?_
  refine hK5 _ _ ?_
  refine wp_cond_false (hA.ev rfl) ?_
  refine wp_skip ?_
  refine hK4 _ _ ?_
  refine wp_seq_k (fun K8 hK8 => ?_)
  refine wp_seq_k (fun K9 hK9 => ?_)
  refine wp_region_lit ?_
  refine seq_do hA rfl rfl rfl (does_move rfl) ?_
  intro a hA
  refine seq_call hA rfl rfl rfl (enters_func  rfl rfl (fun w => by kernel_rfl)) (radix10_any) ?_
  rintro _ w11 ⟨rfl, hb10⟩
  replace hS := hS.call hb10
  refine ⟨_, rfl, ?_⟩
  intro a hA
  refine seq_do (v := .bool false) hA rfl rfl rfl (does_un rfl un_not) ?_
  intro a hA
  refine seq_end ?_
  refine hK9 _ _ ?_
  refine wp_cond_false (hA.ev rfl) ?_
  refine wp_skip ?_
  refine hK8 _ _ ?_
  refine wp_seq_k (fun K12 hK12 => ?_)
  refine wp_seq_k (fun K13 hK13 => ?_)
  refine wp_region_lit ?_
  refine seq_do (v := .agg #[.bool true, .slice a1 1 ac1, .slice a2 1 ac2, .bool false, .slice a3 0 ac3, .slice a4 1 ac4]) hA rfl rfl rfl (does_loadS hS ExM_isS_26 rfl 0 rfl (cs := [.bool true, .slice a1 1 ac1, .slice a2 1 ac2, .bool false, .slice a3 0 ac3, .slice a4 1 ac4]) rfl rfl) ?_
  intro a hA
  refine seq_call hA rfl rfl rfl (enters_func  rfl rfl (fun w => by kernel_rfl)) (isRealQ_any (q := Q6.half) lenQ_half (show decide (Q6.half.t2.length = 0) = true from rfl)) ?_
  rintro _ w15 ⟨rfl, hb14⟩
  replace hS := hS.call hb14
  refine ⟨_, rfl, ?_⟩
  intro a hA
  refine seq_end ?_
  refine hK13 _ _ ?_
  refine wp_cond_true (hA.ev rfl) ?_
  refine wp_seq_k (fun K16 hK16 => ?_)
  refine wp_region_lit ?_
  refine seq_do (v := .pointer (some ⟨g2, 0, none⟩)) hA rfl rfl rfl (does_field ExM_fld_26_0 rfl rfl) ?_
  intro a hA
  refine seq_do (v := .agg #[.bool true, .slice a1 1 ac1, .slice a2 1 ac2]) hA rfl rfl rfl (does_loadS hS ExM_isS_24 rfl 0 rfl (cs := [.bool true, .slice a1 1 ac1, .slice a2 1 ac2]) rfl rfl) ?_
  intro a hA
  refine seq_do hA rfl rfl rfl (does_move rfl) ?_
  intro a hA
  refine seq_call hA rfl rfl rfl (enters_func  rfl rfl (fun w => by kernel_rfl)) (real32_any ⟨(hS.rd 3 rfl), ha.s1.nil, ha.s1.cap⟩ ⟨(hS.rd 2 rfl), ha.s2.nil, ha.s2.cap⟩) ?_
  rintro _ w18 ⟨rfl, hb17⟩
  replace hS := hS.call hb17
  refine ⟨_, rfl, ?_⟩
  intro a hA
  refine seq_do hA rfl rfl rfl (does_assign rfl) ?_
  intro a hA
  refine seq_do hA rfl rfl rfl (does_assign rfl) ?_
  intro a hA
  refine seq_end ?_
  refine hK16 _ _ ?_
  refine wp_ret ?_
  refine hret _ _ ?_
  refine ends (v := .tuple #[.string (⟨#[45, 51, 47, 50]⟩), .int .i64 0]) hA rfl (.cons (res_tmp rfl) (.cons (res_tmp rfl) .nil)) rfl ?_
  exact ⟨rfl, hS.bel⟩
theorem awake3_any {w : World} : Calls Try.prog 8 #[] w fun e w' => e = .returned (.bool true) ∧ Below w.heap.size w w' := by
  have hS : St w w [] [] [] := St.start w
  refine walk_of (l := []) Try.func8 rfl Try.ntmps8 rfl rfl ?_
  intro Q hret hnorm hP a hA
  refine wp_seq_k (fun K1 hK1 => ?_)
  refine wp_region_lit ?_
  refine seq_do hA rfl rfl rfl (does_assign rfl) ?_
  intro a hA
  refine seq_end ?_
  refine hK1 _ _ ?_
  refine wp_seq_k (fun K2 hK2 => ?_)
  refine wp_region_lit ?_
  refine seq_call hA rfl rfl rfl (enters_func  rfl rfl (fun w => by kernel_rfl)) ((show Calls Try.prog 13 #[.int .i64 (6)] _ (AnsV _ (Q6.whole false 6)) from intP_any (k := 6) (by decide))) ?_
  rintro _ w6 ⟨p3_1, p3_c1, p3_2, p3_c2, p3_3, p3_c3, p3_4, p3_c4, rfl, hn4, hb5⟩
  replace hS := hS.call hb5
  replace hS := hS.addR hn4.s1.rd
  replace hS := hS.addR hn4.s2.rd
  replace hS := hS.addR hn4.s3.rd
  replace hS := hS.addR hn4.s4.rd
  refine ⟨_, rfl, ?_⟩
  intro a hA
  refine seq_call hA rfl rfl rfl (enters_func  rfl rfl (fun w => by kernel_rfl)) ((show Calls Try.prog 13 #[.int .i64 (-4)] _ (AnsV _ (Q6.whole true 4)) from intN_any (k := 4) (by decide) (by decide))) ?_
  rintro _ w10 ⟨p7_1, p7_c1, p7_2, p7_c2, p7_3, p7_c3, p7_4, p7_c4, rfl, hn8, hb9⟩
  replace hS := hS.call hb9
  replace hS := hS.addR hn8.s1.rd
  replace hS := hS.addR hn8.s2.rd
  replace hS := hS.addR hn8.s3.rd
  replace hS := hS.addR hn8.s4.rd
  refine ⟨_, rfl, ?_⟩
  intro a hA
  refine seq_call hA rfl rfl rfl (enters_func  rfl rfl (fun w => by kernel_rfl)) ((awake_div ▸ divQ_any (p := Q6.whole false 6) (q := Q6.whole true 4) (show Nm _ _ p3_1 p3_c1 p3_2 p3_c2 p3_3 p3_c3 p3_4 p3_c4 from ⟨⟨(hS.rd 7 rfl), hn4.s1.nil, hn4.s1.cap⟩, ⟨(hS.rd 6 rfl), hn4.s2.nil, hn4.s2.cap⟩, ⟨(hS.rd 5 rfl), hn4.s3.nil, hn4.s3.cap⟩, ⟨(hS.rd 4 rfl), hn4.s4.nil, hn4.s4.cap⟩⟩) (lenQ_whole six_len) (show Nm _ _ p7_1 p7_c1 p7_2 p7_c2 p7_3 p7_c3 p7_4 p7_c4 from ⟨⟨(hS.rd 3 rfl), hn8.s1.nil, hn8.s1.cap⟩, ⟨(hS.rd 2 rfl), hn8.s2.nil, hn8.s2.cap⟩, ⟨(hS.rd 1 rfl), hn8.s3.nil, hn8.s3.cap⟩, ⟨(hS.rd 0 rfl), hn8.s4.nil, hn8.s4.cap⟩⟩) (lenQ_whole four_len))) ?_
  rintro _ w14 ⟨p11_1, p11_c1, p11_2, p11_c2, p11_3, p11_c3, p11_4, p11_c4, rfl, hn12, hb13⟩
  replace hS := hS.call hb13
  replace hS := hS.addR hn12.s1.rd
  replace hS := hS.addR hn12.s2.rd
  replace hS := hS.addR hn12.s3.rd
  replace hS := hS.addR hn12.s4.rd
  refine ⟨_, rfl, ?_⟩
  intro a hA
  refine seq_do hA rfl rfl rfl (does_move rfl) ?_
  intro a hA
  refine seq_do (v := .agg #[.bool true, .slice p11_1 1 p11_c1, .slice p11_2 1 p11_c2, .bool false, .slice p11_3 0 p11_c3, .slice p11_4 1 p11_c4]) hA rfl rfl rfl (does_extract (vs := [.agg #[.bool true, .slice p11_1 1 p11_c1, .slice p11_2 1 p11_c2, .bool false, .slice p11_3 0 p11_c3, .slice p11_4 1 p11_c4], .int .i64 0]) rfl rfl) ?_
  intro a hA
  refine seq_do (v := .int .i64 0) hA rfl rfl rfl (does_extract (vs := [.agg #[.bool true, .slice p11_1 1 p11_c1, .slice p11_2 1 p11_c2, .bool false, .slice p11_3 0 p11_c3, .slice p11_4 1 p11_c4], .int .i64 0]) rfl rfl) ?_
  intro a hA
  refine seq_new (vs := [.bool false, .slice none 0 0, .slice none 0 0, .bool false, .slice none 0 0, .slice none 0 0]) (t := 26) hA hS rfl rfl rfl (fun g => .pointer (some ⟨g, 0, none⟩)) (does_alloc (z := .agg #[.bool false, .slice none 0 0, .slice none 0 0, .bool false, .slice none 0 0, .slice none 0 0]) (by kernel_rfl) rfl) rfl ?_
  intro g15 w16 hS a hA
  refine seq_store (us := [.bool true, .slice p11_1 1 p11_c1, .slice p11_2 1 p11_c2, .bool false, .slice p11_3 0 p11_c3, .slice p11_4 1 p11_c4]) hA hS rfl rfl (sets_store (cs := [.bool true, .slice p11_1 1 p11_c1, .slice p11_2 1 p11_c2, .bool false, .slice p11_3 0 p11_c3, .slice p11_4 1 p11_c4]) rfl rfl rfl (by kernel_rfl) hS 0 rfl rfl rfl) 0 rfl rfl rfl rfl ?_
  intro w17 hS
  refine seq_do hA rfl rfl rfl (does_assign rfl) ?_
  intro a hA
  refine seq_end ?_
  refine hK2 _ _ ?_
  refine wp_seq_k (fun K18 hK18 => ?_)
  refine wp_region_lit ?_
  refine seq_do (v := .agg #[.bool true, .slice p11_1 1 p11_c1, .slice p11_2 1 p11_c2, .bool false, .slice p11_3 0 p11_c3, .slice p11_4 1 p11_c4]) hA rfl rfl rfl (does_loadS hS ExM_isS_26 rfl 0 rfl (cs := [.bool true, .slice p11_1 1 p11_c1, .slice p11_2 1 p11_c2, .bool false, .slice p11_3 0 p11_c3, .slice p11_4 1 p11_c4]) rfl rfl) ?_
  intro a hA
  refine seq_call hA rfl rfl rfl (enters_func  rfl rfl (fun w => by kernel_rfl)) (text32_any (show Nm _ Q6.half p11_1 p11_c1 p11_2 p11_c2 p11_3 p11_c3 p11_4 p11_c4 from ⟨⟨(hS.rd 3 rfl), hn12.s1.nil, hn12.s1.cap⟩, ⟨(hS.rd 2 rfl), hn12.s2.nil, hn12.s2.cap⟩, ⟨(hS.rd 1 rfl), hn12.s3.nil, hn12.s3.cap⟩, ⟨(hS.rd 0 rfl), hn12.s4.nil, hn12.s4.cap⟩⟩)) ?_
  rintro _ w20 ⟨rfl, hb19⟩
  replace hS := hS.call hb19
  refine ⟨_, rfl, ?_⟩
  intro a hA
  refine seq_do hA rfl rfl rfl (does_move rfl) ?_
  intro a hA
  refine seq_do (v := .string (⟨#[45, 51, 47, 50]⟩)) hA rfl rfl rfl (does_extract (vs := [.string (⟨#[45, 51, 47, 50]⟩), .int .i64 0]) rfl rfl) ?_
  intro a hA
  refine seq_do (v := .int .i64 0) hA rfl rfl rfl (does_extract (vs := [.string (⟨#[45, 51, 47, 50]⟩), .int .i64 0]) rfl rfl) ?_
  intro a hA
  refine seq_do hA rfl rfl rfl (does_assign rfl) ?_
  intro a hA
  refine seq_do hA rfl rfl rfl (does_assign rfl) ?_
  intro a hA
  refine seq_end ?_
  refine hK18 _ _ ?_
  refine wp_seq_k (fun K21 hK21 => ?_)
  refine wp_region_lit ?_
  refine seq_do hA rfl rfl rfl (does_move rfl) ?_
  intro a hA
  refine seq_do (v := .bool true) hA rfl rfl rfl (does_bin rfl rfl (fun w => by kernel_rfl)) ?_
  intro a hA
  refine seq_do hA rfl rfl rfl (does_move rfl) ?_
  intro a hA
  refine seq_do hA rfl rfl rfl (does_move rfl) ?_
  intro a hA
  refine seq_do (v := .bool true) hA rfl rfl rfl (does_bin rfl rfl (fun w => by kernel_rfl)) ?_
  intro a hA
  refine seq_do (v := .bool true) hA rfl rfl rfl (does_pick rfl rfl rfl rfl) ?_
  intro a hA
  refine seq_do hA rfl rfl rfl (does_move rfl) ?_
  intro a hA
  refine seq_do hA rfl rfl rfl (does_move rfl) ?_
  intro a hA
  refine seq_do (v := .bool true) hA rfl rfl rfl (does_bin rfl rfl (fun w => by kernel_rfl)) ?_
  intro a hA
  refine seq_do (v := .bool true) hA rfl rfl rfl (does_pick rfl rfl rfl rfl) ?_
  intro a hA
  refine seq_do hA rfl rfl rfl (does_assign rfl) ?_
  intro a hA
  refine seq_end ?_
  refine hK21 _ _ ?_
  refine wp_ret ?_
  refine hret _ _ ?_
  refine ends (v := .bool true) hA rfl (.cons (res_tmp rfl) .nil) rfl ?_
  exact ⟨rfl, hS.bel⟩
end Go.Proofs.Ytmibkfihcihphaa
namespace Go.Proofs.Ytmibkfihcihphaa
open Go.RowKit
set_option linter.unusedVariables false
set_option linter.unusedSimpArgs false
theorem bne0 {x : Int} (h : (x != 0) = false) : x = 0 := by simpa using h
theorem ratS_ok {u v : Rat} (h : (ratS u v).2 = 0) : ratS u v = (Q6.rat u v, 0) ∧ fitR u ∧ fitR v := by
  unfold ratS at *
  by_cases k : fitR u ∧ fitR v
  · rw [if_pos k]; exact ⟨rfl, k⟩
  · rw [if_neg k] at h; exact absurd h (by decide)
theorem ratS_fit {u v : Rat} (hu : fitR u) (hv : fitR v) : ratS u v = (Q6.rat u v, 0) := by
  unfold ratS
  rw [if_pos ⟨hu, hv⟩]
theorem zero_len : (words 0).length ≤ 512 := by rw [words_zero]; decide
theorem zero_whole : Q6.whole false 0 = Q6.rat 0 0 := rat_whole (b := false) (x := 0) (by decide)
end Go.Proofs.Ytmibkfihcihphaa
namespace Go.Proofs.Ytmibkfihcihphaa
open Go.RowKit
set_option linter.unusedVariables false
set_option linter.unusedSimpArgs false
set_option maxRecDepth 100000

theorem mulQ_as {w : World} {p q : Q6} {a1 a2 a3 a4 : Option Addr} {ac1 ac2 ac3 ac4 : Nat} (ha : Nm w p a1 ac1 a2 ac2 a3 ac3 a4 ac4) (hl : LenQ p) {u1 u2 u3 u4 : Option Addr} {uc1 uc2 uc3 uc4 : Nat} (hb : Nm w q u1 uc1 u2 uc2 u3 uc3 u4 uc4) (hm : LenQ q) {z : Q6 × Int} (hz : mulQ p q = z) : Calls Try.prog 12 #[numV p a1 ac1 a2 ac2 a3 ac3 a4 ac4, numV q u1 uc1 u2 uc2 u3 uc3 u4 uc4] w (AnsN w z) := hz ▸ mulQ_any ha hl hb hm
end Go.Proofs.Ytmibkfihcihphaa
namespace Go.Proofs.Ytmibkfihcihphaa
open Go.RowKit
set_option linter.unusedVariables false
set_option linter.unusedSimpArgs false
end Go.Proofs.Ytmibkfihcihphaa
namespace Go.Proofs.Ytmibkfihcihphaa
open Go.RowKit
set_option linter.unusedVariables false
set_option linter.unusedSimpArgs false
set_option maxRecDepth 100000
end Go.Proofs.Ytmibkfihcihphaa
namespace Go.Proofs.Ytmibkfihcihphaa
open Go.RowKit
set_option linter.unusedVariables false
set_option linter.unusedSimpArgs false
set_option maxRecDepth 100000
end Go.Proofs.Ytmibkfihcihphaa
namespace Go.Proofs.Ytmibkfihcihphaa
open Go.RowKit
set_option linter.unusedVariables false
set_option linter.unusedSimpArgs false
set_option maxRecDepth 100000
end Go.Proofs.Ytmibkfihcihphaa
namespace Go.Proofs.Ytmibkfihcihphaa
open Go.RowKit
set_option linter.unusedVariables false
set_option linter.unusedSimpArgs false
set_option maxRecDepth 100000
end Go.Proofs.Ytmibkfihcihphaa
namespace Go.Proofs.Ytmibkfihcihphaa
open Go.RowKit
set_option linter.unusedVariables false
set_option linter.unusedSimpArgs false
end Go.Proofs.Ytmibkfihcihphaa
namespace Go.Proofs.Ytmibkfihcihphaa
open Go.RowKit
set_option linter.unusedVariables false
set_option linter.unusedSimpArgs false
set_option maxRecDepth 100000

end Go.Proofs.Ytmibkfihcihphaa
namespace Go.Proofs.Ytmibkfihcihphaa
open Go.RowKit
set_option linter.unusedVariables false
set_option linter.unusedSimpArgs false
end Go.Proofs.Ytmibkfihcihphaa
namespace Go.Proofs.Ytmibkfihcihphaa
open Go.RowKit
set_option linter.unusedVariables false
set_option linter.unusedSimpArgs false
set_option maxRecDepth 100000
end Go.Proofs.Ytmibkfihcihphaa
namespace Go.Proofs.Ytmibkfihcihphaa
open Go.RowKit
set_option linter.unusedVariables false
set_option linter.unusedSimpArgs false
/-- The powers of u + v i. -/
def pwR (u v : Rat) : Nat → Rat × Rat
  | 0 => (1, 0)
  | n + 1 => ((pwR u v n).1 * u - (pwR u v n).2 * v, (pwR u v n).1 * v + (pwR u v n).2 * u)
def fitB (z : Rat × Rat) : Bool := decide (fitR z.1 ∧ fitR z.2)
/-- None of the powers from 1 on is too long. -/
def pwB (u v : Rat) : Nat → Bool
  | 0 => true
  | n + 1 => pwB u v n && fitB (pwR u v (n + 1))
def ivR (z : Rat × Rat) : Rat × Rat := (z.1 / (z.1 * z.1 + z.2 * z.2), -z.2 / (z.1 * z.1 + z.2 * z.2))
def exptQ (q : Q6) (n : Int) : Q6 × Int :=
  if soundQ q = true then
    if n < -1024 ∨ 1024 < n then (Q6.zero, 1)
    else if n = 0 then (Q6.whole false 1, 0)
    else if n < 0 ∧ (reQ q = 0 ∧ imQ q = 0) then (Q6.zero, 3)
    else if pwB (reQ q) (imQ q) n.natAbs = true then
      (if n < 0 then ratS (ivR (pwR (reQ q) (imQ q) n.natAbs)).1 (ivR (pwR (reQ q) (imQ q) n.natAbs)).2 else ratS (pwR (reQ q) (imQ q) n.natAbs).1 (pwR (reQ q) (imQ q) n.natAbs).2)
    else (Q6.zero, 4)
  else (Q6.zero, 2)
theorem pwR_one (u v : Rat) : pwR u v 1 = (u, v) := by
  show (1 * u - 0 * v, 1 * v + 0 * u) = (u, v)
  rw [Rat.one_mul, Rat.zero_mul, Rat.one_mul, Rat.zero_mul, Rat.add_zero]
  congr 1
  grind
theorem pwR_add (u v : Rat) (i j : Nat) : (pwR u v (i + j)).1 = (pwR u v i).1 * (pwR u v j).1 - (pwR u v i).2 * (pwR u v j).2 ∧ (pwR u v (i + j)).2 = (pwR u v i).1 * (pwR u v j).2 + (pwR u v i).2 * (pwR u v j).1 := by
  induction j with
  | zero =>
    show (pwR u v i).1 = (pwR u v i).1 * 1 - (pwR u v i).2 * 0 ∧ (pwR u v i).2 = (pwR u v i).1 * 0 + (pwR u v i).2 * 1
    constructor <;> grind
  | succ j ih =>
    obtain ⟨h1, h2⟩ := ih
    show (pwR u v (i + j)).1 * u - (pwR u v (i + j)).2 * v = (pwR u v i).1 * ((pwR u v j).1 * u - (pwR u v j).2 * v) - (pwR u v i).2 * ((pwR u v j).1 * v + (pwR u v j).2 * u) ∧ (pwR u v (i + j)).1 * v + (pwR u v (i + j)).2 * u = (pwR u v i).1 * ((pwR u v j).1 * v + (pwR u v j).2 * u) + (pwR u v i).2 * ((pwR u v j).1 * u - (pwR u v j).2 * v)
    rw [h1, h2]
    generalize (pwR u v i).1 = a
    generalize (pwR u v i).2 = b
    generalize (pwR u v j).1 = c
    generalize (pwR u v j).2 = d
    constructor <;> grind
theorem sq_ne {u v : Rat} (h : ¬ (u = 0 ∧ v = 0)) : u * u + v * v ≠ 0 := (iv_mk (spD_ne u v) (sp_ne h) (spX_mk u v) (spY_mk u v)).2.2
theorem sq_zero {u v : Rat} (h : u * u + v * v ≠ 0) : ¬ (u = 0 ∧ v = 0) := by
  rintro ⟨rfl, rfl⟩
  exact h (by decide +kernel)
theorem pwR_ne {u v : Rat} (h : ¬ (u = 0 ∧ v = 0)) (n : Nat) : ¬ ((pwR u v n).1 = 0 ∧ (pwR u v n).2 = 0) := by
  induction n with
  | zero => rintro ⟨h1, _⟩; exact absurd h1 (by show ¬ (1 : Rat) = 0; decide +kernel)
  | succ n ih =>
    have h1 := sq_ne h
    have h2 := sq_ne ih
    apply sq_zero
    show ((pwR u v n).1 * u - (pwR u v n).2 * v) * ((pwR u v n).1 * u - (pwR u v n).2 * v) + ((pwR u v n).1 * v + (pwR u v n).2 * u) * ((pwR u v n).1 * v + (pwR u v n).2 * u) ≠ 0
    generalize (pwR u v n).1 = a at *
    generalize (pwR u v n).2 = b at *
    have e : (a * u - b * v) * (a * u - b * v) + (a * v + b * u) * (a * v + b * u) = (a * a + b * b) * (u * u + v * v) := by grind
    rw [e]
    exact fun k => (Rat.mul_eq_zero.1 k).elim h2 h1
theorem pwB_fit {u v : Rat} {n : Nat} (h : pwB u v n = true) : ∀ k, k ≤ n → fitR (pwR u v k).1 ∧ fitR (pwR u v k).2 := by
  induction n with
  | zero =>
    intro k hk
    obtain rfl : k = 0 := by omega
    refine ⟨?_, fitR_zero⟩
    show fitR 1
    unfold fitR
    rw [show (1 : Rat).num.natAbs = 1 from rfl, show (1 : Rat).den = 1 from rfl]
    exact ⟨one_len, one_len⟩
  | succ n ih =>
    rw [pwB, Bool.and_eq_true] at h
    intro k hk
    by_cases e : k = n + 1
    · rw [e]
      have := h.2
      unfold fitB at this
      exact of_decide_eq_true this
    · exact ih h.1 k (by omega)
theorem pwB_step {u v : Rat} {n : Nat} (h : pwB u v n = true) (h1 : fitR (pwR u v (n + 1)).1) (h2 : fitR (pwR u v (n + 1)).2) : pwB u v (n + 1) = true := by
  rw [pwB, h, Bool.true_and]
  unfold fitB
  exact decide_eq_true ⟨h1, h2⟩
theorem pwB_stop {u v : Rat} {n k : Nat} (hk : k ≤ n) (h : ¬ (fitR (pwR u v k).1 ∧ fitR (pwR u v k).2)) : pwB u v n = false := by
  cases e : pwB u v n with
  | false => rfl
  | true => exact absurd (pwB_fit e k hk) h
theorem one_rat : Q6.whole false 1 = Q6.rat 1 0 := rat_whole (b := false) (x := 1) (by decide)
theorem fitR_one : fitR 1 := (pwB_fit (u := 0) (v := 0) (n := 0) rfl 0 (by decide)).1
theorem exptQ_nat {u v : Rat} (hu : fitR u) (hv : fitR v) {n : Nat} (h : (exptQ (Q6.rat u v) n).2 = 0) :
    exptQ (Q6.rat u v) n = (Q6.rat (pwR u v n).1 (pwR u v n).2, 0) ∧ fitR (pwR u v n).1 ∧ fitR (pwR u v n).2 := by
  unfold exptQ at *
  rw [if_pos (soundQ_rat hu hv)] at h ⊢
  by_cases h1 : (n : Int) < -1024 ∨ 1024 < (n : Int)
  · rw [if_pos h1] at h; exact absurd h (by decide)
  · rw [if_neg h1] at h ⊢
    by_cases h2 : (n : Int) = 0
    · rw [if_pos h2]
      obtain rfl : n = 0 := by omega
      exact ⟨by rw [one_rat]; rfl, fitR_one, fitR_zero⟩
    · rw [if_neg h2] at h ⊢
      rw [if_neg (by omega)] at h ⊢
      rw [reQ_rat, imQ_rat, Int.natAbs_natCast] at *
      by_cases h3 : pwB u v n = true
      · rw [if_pos h3, if_neg (by omega)]
        obtain ⟨a, b⟩ := pwB_fit h3 n (Nat.le_refl n)
        exact ⟨ratS_fit a b, a, b⟩
      · rw [if_neg h3] at h; exact absurd h (by decide)
theorem exptQ_neg {u v : Rat} (hu : fitR u) (hv : fitR v) {n : Nat} (h0 : n ≠ 0) (hn : n ≤ 1024) (hz : ¬ (u = 0 ∧ v = 0)) :
    exptQ (Q6.rat u v) (-(n : Int)) = (if pwB u v n = true then ratS (ivR (pwR u v n)).1 (ivR (pwR u v n)).2 else (Q6.zero, 4)) := by
  unfold exptQ
  rw [if_pos (soundQ_rat hu hv), if_neg (by omega), if_neg (by omega), reQ_rat, imQ_rat, if_neg (fun k => hz k.2), Int.natAbs_neg, Int.natAbs_natCast, if_pos (show -(n : Int) < 0 by omega)]
theorem lenQ_expt (q : Q6) (n : Int) : LenQ (exptQ q n).1 := by
  unfold exptQ
  split
  · split
    · exact lenQ_z
    · split
      · exact lenQ_whole one_len
      · split
        · exact lenQ_z
        · split
          · split <;> exact lenQ_ratS _ _
          · exact lenQ_z
  · exact lenQ_z
theorem power_mul {u v : Rat} (hu : fitR u) (hv : fitR v) {i j : Nat} (h1 : (exptQ (Q6.rat u v) i).2 = 0) (h2 : (exptQ (Q6.rat u v) j).2 = 0) (h3 : (exptQ (Q6.rat u v) ((i + j : Nat) : Int)).2 = 0) :
    (mulQ (exptQ (Q6.rat u v) i).1 (exptQ (Q6.rat u v) j).1).2 = 0 ∧ sameQ (mulQ (exptQ (Q6.rat u v) i).1 (exptQ (Q6.rat u v) j).1).1 (exptQ (Q6.rat u v) ((i + j : Nat) : Int)).1 = true := by
  obtain ⟨e1, a1, b1⟩ := exptQ_nat hu hv h1
  obtain ⟨e2, a2, b2⟩ := exptQ_nat hu hv h2
  obtain ⟨e3, a3, b3⟩ := exptQ_nat hu hv h3
  rw [e1, e2, e3]
  simp only []
  rw [mulQ_rat a1 b1 a2 b2, ← (pwR_add u v i j).1, ← (pwR_add u v i j).2, ratS_fit a3 b3]
  exact ⟨rfl, sameQ_self (soundQ_rat a3 b3)⟩
theorem power_zero {u v : Rat} (hu : fitR u) (hv : fitR v) {i : Nat} (hi : i ≤ 1024) (hz : sameQ (Q6.rat u v) (Q6.whole false 0) = true) : (exptQ (Q6.rat u v) (-(i : Int))).2 = if i = 0 then 0 else 3 := by
  rw [zero_whole, sameQ_rat hu hv fitR_zero fitR_zero, decide_eq_true_eq] at hz
  unfold exptQ
  rw [if_pos (soundQ_rat hu hv), if_neg (by omega)]
  by_cases h : i = 0
  · rw [if_pos h, if_pos (by omega)]
  · rw [if_neg h, if_neg (by omega), if_pos ⟨by omega, by rw [reQ_rat, imQ_rat]; exact hz⟩]
theorem power_inv {u v : Rat} (hu : fitR u) (hv : fitR v) {i : Nat} (hi : i ≤ 1024) (hz : sameQ (Q6.rat u v) (Q6.whole false 0) = false) (h1 : (exptQ (Q6.rat u v) i).2 = 0) :
    (exptQ (Q6.rat u v) (-(i : Int))).2 = 4 ∨ ((exptQ (Q6.rat u v) (-(i : Int))).2 = 0 ∧ (mulQ (exptQ (Q6.rat u v) i).1 (exptQ (Q6.rat u v) (-(i : Int))).1).2 = 0 ∧ sameQ (mulQ (exptQ (Q6.rat u v) i).1 (exptQ (Q6.rat u v) (-(i : Int))).1).1 (Q6.whole false 1) = true) := by
  rw [zero_whole, sameQ_rat hu hv fitR_zero fitR_zero, decide_eq_false_iff_not] at hz
  obtain ⟨e1, a1, b1⟩ := exptQ_nat hu hv h1
  by_cases h : i = 0
  · right
    subst h
    have e2 : exptQ (Q6.rat u v) (-((0 : Nat) : Int)) = (Q6.rat 1 0, 0) := by
      unfold exptQ
      rw [if_pos (soundQ_rat hu hv), if_neg (by omega), if_pos (by omega), one_rat]
    rw [e1, e2]
    simp only []
    have k1 : (pwR u v 0).1 * 1 - (pwR u v 0).2 * 0 = 1 := by show (1 : Rat) * 1 - 0 * 0 = 1; decide +kernel
    have k2 : (pwR u v 0).1 * 0 + (pwR u v 0).2 * 1 = 0 := by show (1 : Rat) * 0 + 0 * 1 = 0; decide +kernel
    rw [mulQ_rat a1 b1 fitR_one fitR_zero, k1, k2, ratS_fit fitR_one fitR_zero, one_rat]
    exact ⟨by trivial, by trivial, sameQ_self (soundQ_rat fitR_one fitR_zero)⟩
  · rw [exptQ_neg hu hv h hi hz]
    by_cases hp : pwB u v i = true
    · rw [if_pos hp]
      by_cases hf : (ratS (ivR (pwR u v i)).1 (ivR (pwR u v i)).2).2 = 0
      · right
        obtain ⟨e2, a2, b2⟩ := ratS_ok hf
        rw [e1, e2]
        simp only []
        have hn := sq_ne (pwR_ne hz i)
        have k1 : (pwR u v i).1 * (ivR (pwR u v i)).1 - (pwR u v i).2 * (ivR (pwR u v i)).2 = 1 := by
          unfold ivR
          generalize (pwR u v i).1 = a at *
          generalize (pwR u v i).2 = b at *
          grind
        have k2 : (pwR u v i).1 * (ivR (pwR u v i)).2 + (pwR u v i).2 * (ivR (pwR u v i)).1 = 0 := by
          unfold ivR
          generalize (pwR u v i).1 = a at *
          generalize (pwR u v i).2 = b at *
          grind
        rw [mulQ_rat a1 b1 a2 b2, k1, k2, ratS_fit fitR_one fitR_zero, one_rat]
        exact ⟨by trivial, by trivial, sameQ_self (soundQ_rat fitR_one fitR_zero)⟩
      · left
        unfold ratS at hf ⊢
        by_cases k : fitR (ivR (pwR u v i)).1 ∧ fitR (ivR (pwR u v i)).2
        · rw [if_pos k] at hf; exact absurd rfl hf
        · rw [if_neg k]
    · left
      rw [if_neg hp]
/-- A step of the powers, over one bottom. -/
theorem pw_step {u v : Rat} {X Y x y : Int} {D d n : Nat} (hD : D ≠ 0) (hd : d ≠ 0) (h1 : mkRat X D = (pwR u v n).1) (h2 : mkRat Y D = (pwR u v n).2) (hu : mkRat x d = u) (hv : mkRat y d = v) :
    mkRat (X * x + -(Y * y)) (D * d) = (pwR u v (n + 1)).1 ∧ mkRat (X * y + Y * x) (D * d) = (pwR u v (n + 1)).2 := by
  show _ = (pwR u v n).1 * u - (pwR u v n).2 * v ∧ _ = (pwR u v n).1 * v + (pwR u v n).2 * u
  have h := Nat.mul_ne_zero hD hd
  rw [← h1, ← h2, ← hu, ← hv, Rat.sub_eq_add_neg, Rat.mkRat_mul_mkRat, Rat.mkRat_mul_mkRat, Rat.mkRat_mul_mkRat, Rat.mkRat_mul_mkRat, Rat.neg_mkRat, mk_add h, mk_add h]
  exact ⟨rfl, rfl⟩
theorem fit_mk {x : Int} {d : Nat} (hd : d ≠ 0) (h1 : (words x.natAbs).length ≤ 512) (h2 : (words d).length ≤ 512) {u : Rat} (hu : mkRat x d = u) : fitR u := by
  subst hu
  unfold fitR
  rw [← rt_mk x hd, ← rq_mk x hd]
  exact ⟨div_len h1, div_len h2⟩
/-- A power over one bottom and an error's number are answered. -/
def PwOut (u v : Rat) (n : Nat) (X Y : Int) (D : Nat) : Prop := D ≠ 0 ∧ mkRat X D = (pwR u v n).1 ∧ mkRat Y D = (pwR u v n).2 ∧ (words X.natAbs).length ≤ 1024 ∧ (words Y.natAbs).length ≤ 1024 ∧ (words D).length ≤ 1024
def AnsPw (w : World) (u v : Rat) (n : Nat) (e : Ending) (w' : World) : Prop :=
  (pwB u v n = true ∧ ∃ X Y D, PwOut u v n X Y D ∧ ∃ o1 c1 o2 c2 o3 c3, e = .returned (.tuple #[.agg #[.bool (rb X), .slice o1 (words X.natAbs).length c1, .bool (rb Y), .slice o2 (words Y.natAbs).length c2, .slice o3 (words D).length c3], .int .i64 0]) ∧ Sc w' o1 c1 (words X.natAbs) ∧ Sc w' o2 c2 (words Y.natAbs) ∧ Sc w' o3 c3 (words D) ∧ Below w.heap.size w w') ∨
  (pwB u v n = false ∧ e = .returned (.tuple #[.agg #[.bool false, .slice none 0 0, .bool false, .slice none 0 0, .slice none 0 0], .int .i64 4]) ∧ Below w.heap.size w w')
theorem run_maxI {P : Program} {ts : Array TypeId} {ty : TypeId} {x y z : Int} (h : (if y > x then y else x) = z) : ∀ w cs, (builtin .max ts ty cs #[.int .i64 x, .int .i64 y]).run P w = .ok (.value (.int .i64 z)) w := fun w cs => by
  rw [BigFrame.builtin_max]
  simp only [Builtin.max_, List.foldlM_cons, List.foldlM_nil, Builtin.max2, Sem.run_bind, Sem.run_pure, Result.andThen_ok, h]
theorem mk_ne {X Y : Int} {D : Nat} {z : Rat × Rat} (hX : mkRat X D = z.1) (hY : mkRat Y D = z.2) (h : ¬ (z.1 = 0 ∧ z.2 = 0)) : X ≠ 0 ∨ Y ≠ 0 := by
  apply Classical.byContradiction
  intro k
  have h1 : X = 0 := Classical.byContradiction fun c => k (.inl c)
  have h2 : Y = 0 := Classical.byContradiction fun c => k (.inr c)
  rw [h1, Rat.zero_mkRat] at hX
  rw [h2, Rat.zero_mkRat] at hY
  exact h ⟨hX.symm, hY.symm⟩
theorem set_iv {X Y : Int} {D : Nat} {z : Rat × Rat} (hD : D ≠ 0) (hX : mkRat X D = z.1) (hY : mkRat Y D = z.2) (h : X ≠ 0 ∨ Y ≠ 0) : setQ (ivX X Y D) (ivY X Y D) (ivD X Y) = ratS (ivR z).1 (ivR z).2 := by
  obtain ⟨a, b, _⟩ := iv_mk hD h hX hY
  rw [setQ_rat _ _ (ivD_ne h), a, b]
  rfl
theorem exptQ_pos {u v : Rat} (hu : fitR u) (hv : fitR v) {N : Nat} (h1 : 1 ≤ N) (h2 : N ≤ 1024) : exptQ (Q6.rat u v) ((N : Nat) : Int) = (if pwB u v N = true then ratS (pwR u v N).1 (pwR u v N).2 else (Q6.zero, 4)) := by
  unfold exptQ
  rw [if_pos (soundQ_rat hu hv), if_neg (by omega), if_neg (by omega), if_neg (by omega), reQ_rat, imQ_rat, Int.natAbs_natCast, if_neg (show ¬ ((N : Nat) : Int) < 0 by omega)]
theorem exptQ_bad {q : Q6} {n : Int} (h : soundQ q = false) : exptQ q n = (Q6.zero, 2) := if_neg (by rw [h]; decide)
theorem exptQ_arg {u v : Rat} (hu : fitR u) (hv : fitR v) {n : Int} (h : n < -1024 ∨ 1024 < n) : exptQ (Q6.rat u v) n = (Q6.zero, 1) := by
  unfold exptQ
  rw [if_pos (soundQ_rat hu hv), if_pos h]
theorem exptQ_0 {u v : Rat} (hu : fitR u) (hv : fitR v) : exptQ (Q6.rat u v) 0 = (Q6.whole false 1, 0) := by
  unfold exptQ
  rw [if_pos (soundQ_rat hu hv), if_neg (by omega), if_pos rfl]
theorem exptQ_z {u v : Rat} (hu : fitR u) (hv : fitR v) {N : Nat} (h1 : 1 ≤ N) (h2 : N ≤ 1024) (hz : u = 0 ∧ v = 0) : exptQ (Q6.rat u v) (-((N : Nat) : Int)) = (Q6.zero, 3) := by
  unfold exptQ
  rw [if_pos (soundQ_rat hu hv), if_neg (by omega), if_neg (by omega), if_pos ⟨by omega, by rw [reQ_rat, imQ_rat]; exact hz⟩]
section
variable {P : Program} {md : Region.Mode} {ops : List Oper} {Q : Exit → Act → World → Prop} {S : World → Prop} {fuel : Nat} {listed : Array Bool} {a : Act} {w w' : World} {n : Nat} {l : List (Nat × Value)} {o : Oper} {v : Value}
theorem any_skipU (hA : Sl a n l) (i : Nat) (hi : ops[i]? = some o) (hg : staysU l ops o = true) {d : Nat} (hdst : o.dst = some d) (hd : Nat.blt d n = true) (hs : Region.noSelect ops.toArray = true) (hf : Region.free md ops.toArray listed i = true)
    (hr : (Region.ready md ops.toArray listed).contains i = true) (hQ : ∀ c a w, Q (.panic c) (a.put o.dst undef) w → Q (.panic c) a w) (hS : S w)
    (hk : ∀ a', Sl a' n ((d, undef) :: l) → wpAnyH P md ops.toArray Q S fuel (listed.setIfInBounds i true) a' w) : wpAnyH P md ops.toArray Q S (fuel + 1) listed a w := by
  refine wpAnyH_take (i := i) (oi := o) (v := undef) (by simpa using hi) hs hf hr hQ (Or.inr ⟨hA.unwantedU hg, rfl⟩) hS ?_
  rw [hdst]
  exact hk _ (hA.put hd undef)
end
section
variable {P : Program} {t : TypeId} {a b : Operand}
theorem bin_rem8 {n k r : Nat} (hn : n ≤ 255) (hk : 0 < k) (hr : n % k = r) : ∀ w, (do eqGuard .rem t a b (.int .u8 ((n : Nat) : Int)) (.int .u8 ((k : Nat) : Int)); binOp .rem t (.int .u8 ((n : Nat) : Int)) (.int .u8 ((k : Nat) : Int)) : Sem Value).run P w = .ok (.int .u8 ((r : Nat) : Int)) w := fun w => by
  subst hr
  have e : ((n : Nat) : Int).tmod ((k : Nat) : Int) = ((n % k : Nat) : Int) := by rw [Int.tmod_eq_emod_of_nonneg (by omega)]; rfl
  have h0 : ¬ ((k : Nat) : Int) = 0 := by omega
  have hl := Nat.mod_le n k
  have h : IntKind.u8.wrap ((n % k : Nat) : Int) = ((n % k : Nat) : Int) := by rw [IntKind.wrap_u8]; omega
  have hk0 : ¬ k = 0 := by omega
  simp [go_sem, e, h, h0, hk0]
theorem conv_u8i {s d : TypeId} {m : Nat} (hs : P.underlying s = some (.int .u8)) (hd : P.underlying d = some (.int .i64)) (hm : m ≤ 255) : ∀ w, (convert s d (.int .u8 ((m : Nat) : Int))).run P w = .ok (.int .i64 ((m : Nat) : Int)) w := fun w => by
  have := i64In (a := ((m : Nat) : Int)) (by omega) (by omega)
  simp [convert, run_underlying hs, run_underlying hd, go_sem, this]
end
/-- What a slice's room says. -/
def Ncap (o : Option Addr) (c : Nat) (l : List Nat) : Prop := (o = none → c = 0) ∧ l.length ≤ c
theorem Sc.ncap {w : World} {o : Option Addr} {c : Nat} {l : List Nat} (h : Sc w o c l) : Ncap o c l := ⟨h.nil, h.cap⟩
theorem soundB_any {w : World} {ao : Option Addr} {n : Nat} (cap : Nat) (h : Rd w ao (words n)) (hn : (words n).length ≤ 9223372036854775807) {r : Bool} (hr : decide ((words n).length ≤ 512) = r) :
    Calls Try.prog 73 #[.slice ao (words n).length cap] w fun e w' => e = .returned (.bool r) ∧ w' = w := by
  subst hr
  rw [← sound_len]
  exact sound_any cap h hn
theorem set_pw {X Y : Int} {D : Nat} {z : Rat × Rat} (hD : D ≠ 0) (h1 : mkRat X D = z.1) (h2 : mkRat Y D = z.2) : setQ X Y D = ratS z.1 z.2 := by rw [setQ_rat _ _ hD, h1, h2]
theorem fitB_ok {z : Rat × Rat} (h : fitB z = true) : fitR z.1 ∧ fitR z.2 := of_decide_eq_true h
theorem fitB_no {z : Rat × Rat} (h : fitB z = false) : ¬ (fitR z.1 ∧ fitR z.2) := of_decide_eq_false h
theorem ratS_no {u v : Rat} (h : ¬ (fitR u ∧ fitR v)) : ratS u v = (Q6.zero, 4) := if_neg h
theorem pwOut_first {u v : Rat} {x y : Int} {d : Nat} (hd : d ≠ 0) (hu : mkRat x d = u) (hv : mkRat y d = v) (l1 : (words x.natAbs).length ≤ 1024) (l2 : (words y.natAbs).length ≤ 1024) (l3 : (words d).length ≤ 1024) : PwOut u v (0 + 1) x y d := by
  refine ⟨hd, ?_, ?_, l1, l2, l3⟩
  · rw [hu, show 0 + 1 = 1 from rfl, pwR_one]
  · rw [hv, show 0 + 1 = 1 from rfl, pwR_one]
theorem pwB_first {u v : Rat} (hu : fitR u) (hv : fitR v) : pwB u v (0 + 1) = true := pwB_step (n := 0) rfl (by rw [show 0 + 1 = 1 from rfl, pwR_one]; exact hu) (by rw [show 0 + 1 = 1 from rfl, pwR_one]; exact hv)
end Go.Proofs.Ytmibkfihcihphaa
namespace Go.Proofs.Ytmibkfihcihphaa
open Go.RowKit
set_option linter.unusedVariables false
set_option linter.unusedSimpArgs false
set_option maxRecDepth 100000
theorem ExU_is1_22 : Is1 Try.prog 22 := ⟨⟨_, Try.underlying22, rfl⟩, by kernel_rfl⟩
theorem ExU_fld_46_1 : FieldAt Try.prog 46 1 1 := ⟨_, _, Try.underlying46, rfl, rfl, by kernel_rfl⟩
theorem ExU_fld_48_0 : FieldAt Try.prog 48 0 0 := ⟨_, _, Try.underlying48, rfl, rfl, by kernel_rfl⟩
theorem ExU_fld_48_1 : FieldAt Try.prog 48 1 2 := ⟨_, _, Try.underlying48, rfl, rfl, by kernel_rfl⟩
theorem ExU_fld_48_2 : FieldAt Try.prog 48 2 4 := ⟨_, _, Try.underlying48, rfl, rfl, by kernel_rfl⟩
theorem ExU_isS_26 : IsS Try.prog 26 6 := ⟨⟨_, Try.underlying26⟩, by kernel_rfl⟩
theorem ExU_isS_48 : IsS Try.prog 48 5 := ⟨⟨_, Try.underlying48⟩, by kernel_rfl⟩
set_option maxHeartbeats 1000000 in
theorem zpower_any {w : World} {x y : Int} {d n : Nat} {a1 a2 a3 : Option Addr} {ac1 ac2 ac3 : Nat} (ha1 : Sc w a1 ac1 (words x.natAbs)) (ha2 : Sc w a2 ac2 (words y.natAbs)) (ha3 : Sc w a3 ac3 (words d)) (l1 : (words x.natAbs).length ≤ 1024) (l2 : (words y.natAbs).length ≤ 1024) (l3 : (words d).length ≤ 1024) (hd : d ≠ 0) {u v : Rat} (hu : mkRat x d = u) (hv : mkRat y d = v) (fu : fitR u) (fv : fitR v) (hn1 : 1 ≤ n) (hn2 : n ≤ 1024) : Calls Try.prog 42 #[.agg #[.bool (rb x), .slice a1 (words x.natAbs).length ac1, .bool (rb y), .slice a2 (words y.natAbs).length ac2, .slice a3 (words d).length ac3], .int .i64 ((n : Nat) : Int)] w (AnsPw w u v n) := by
  have hS : St w w [] [(a3, words d), (a2, words y.natAbs), (a1, words x.natAbs)] [] := (((St.start w).addR ha1.rd).addR ha2.rd).addR ha3.rd
  refine walk_of (l := [(0, .agg #[.bool ((rb x)), .slice a1 ((words x.natAbs).length) ac1, .bool ((rb y)), .slice a2 ((words y.natAbs).length) ac2, .slice a3 ((words d).length) ac3]), (1, .int .i64 (((n : Nat) : Int)))]) Try.func42 rfl Try.ntmps42 rfl rfl ?_
  intro Q hret hnorm hP a hA
  refine wp_seq_k (fun K1 hK1 => ?_)
  refine wp_region_lit ?_
  refine seq_new (vs := [.bool ((rb x)), .slice a1 ((words x.natAbs).length) ac1, .bool ((rb y)), .slice a2 ((words y.natAbs).length) ac2, .slice a3 ((words d).length) ac3]) (t := 48) hA hS rfl rfl rfl (fun g => .pointer (some ⟨g, 0, none⟩)) (does_box rfl rfl) rfl ?_
  intro g2 w3 hS a hA
  refine seq_new (vs := [.bool false, .slice none 0 0, .bool false, .slice none 0 0, .slice none 0 0]) (t := 48) hA hS rfl rfl rfl (fun g => .pointer (some ⟨g, 0, none⟩)) (does_alloc (z := .agg #[.bool false, .slice none 0 0, .bool false, .slice none 0 0, .slice none 0 0]) (by kernel_rfl) rfl) rfl ?_
  intro g4 w5 hS a hA
  refine seq_do hA rfl rfl rfl (does_assign rfl) ?_
  intro a hA
  refine seq_end ?_
  refine hK1 _ _ ?_
  refine wp_seq_k (fun K6 hK6 => ?_)
  refine wp_region_lit ?_
  refine seq_do (v := .agg #[.bool ((rb x)), .slice a1 ((words x.natAbs).length) ac1, .bool ((rb y)), .slice a2 ((words y.natAbs).length) ac2, .slice a3 ((words d).length) ac3]) hA rfl rfl rfl (does_loadS hS ExU_isS_48 rfl 1 rfl (cs := [.bool ((rb x)), .slice a1 ((words x.natAbs).length) ac1, .bool ((rb y)), .slice a2 ((words y.natAbs).length) ac2, .slice a3 ((words d).length) ac3]) rfl rfl) ?_
  intro a hA
  refine seq_new (vs := [.bool false, .slice none 0 0, .bool false, .slice none 0 0, .slice none 0 0]) (t := 48) hA hS rfl rfl rfl (fun g => .pointer (some ⟨g, 0, none⟩)) (does_alloc (z := .agg #[.bool false, .slice none 0 0, .bool false, .slice none 0 0, .slice none 0 0]) (by kernel_rfl) rfl) rfl ?_
  intro g7 w8 hS a hA
  refine seq_store (us := [.bool ((rb x)), .slice a1 ((words x.natAbs).length) ac1, .bool ((rb y)), .slice a2 ((words y.natAbs).length) ac2, .slice a3 ((words d).length) ac3]) hA hS rfl rfl (sets_store (cs := [.bool ((rb x)), .slice a1 ((words x.natAbs).length) ac1, .bool ((rb y)), .slice a2 ((words y.natAbs).length) ac2, .slice a3 ((words d).length) ac3]) rfl rfl rfl (by kernel_rfl) hS 0 rfl rfl rfl) 0 rfl rfl rfl rfl ?_
  intro w9 hS
  refine seq_end ?_
  refine hK6 _ _ ?_
  refine wp_seq_k (fun K10 hK10 => ?_)
  refine wp_seq_k (fun K11 hK11 => ?_)
  refine wp_region_lit ?_
  refine seq_do hA rfl rfl rfl (does_move rfl) ?_
  intro a hA
  refine seq_do (v := .int .i64 (((n - 1 : Nat) : Int))) hA rfl rfl rfl (does_bin rfl rfl (fun w => (bin_sub (i64In (by omega) (by omega)) w).trans (by rw [show (((n : Nat) : Int) - 1 : Int) = ((n - 1 : Nat) : Int) from by omega]))) ?_
  intro a hA
  refine seq_do hA rfl rfl rfl (does_move rfl) ?_
  intro a hA
  refine seq_end ?_
  refine hK11 _ _ ?_
  refine wp_block ?_
  refine wp_loop_n (fun m a w1 => ∃ (i : Nat) (X : Int) (Y : Int) (D : Nat) (po1 : Option Addr) (poc1 : Nat) (po2 : Option Addr) (poc2 : Nat) (po3 : Option Addr) (poc3 : Nat), m = n - 1 - i ∧ (i + 1 ≤ n ∧ pwB u v (i + 1) = true ∧ PwOut u v (i + 1) X Y D ∧ Ncap po1 poc1 (words X.natAbs) ∧ Ncap po2 poc2 (words Y.natAbs) ∧ Ncap po3 poc3 (words D)) ∧ Sl a 45 [(0, .agg #[.bool ((rb x)), .slice a1 ((words x.natAbs).length) ac1, .bool ((rb y)), .slice a2 ((words y.natAbs).length) ac2, .slice a3 ((words d).length) ac3]), (1, .int .i64 (((n : Nat) : Int))), (2, .pointer (some ⟨g2, 0, none⟩)), (4, .pointer (some ⟨g4, 0, none⟩)), (6, .pointer (some ⟨g7, 0, none⟩)), (9, .agg #[.bool ((rb x)), .slice a1 ((words x.natAbs).length) ac1, .bool ((rb y)), .slice a2 ((words y.natAbs).length) ac2, .slice a3 ((words d).length) ac3]), (10, .int .i64 (((n : Nat) : Int))), (11, .int .i64 (((n - 1 : Nat) : Int))), (12, .int .i64 (((i : Nat) : Int)))] ∧ St w w1 [(g7, [.bool ((rb X)), .slice po1 ((words X.natAbs).length) poc1, .bool ((rb Y)), .slice po2 ((words Y.natAbs).length) poc2, .slice po3 ((words D).length) poc3]), (g4, [.bool false, .slice none 0 0, .bool false, .slice none 0 0, .slice none 0 0]), (g2, [.bool ((rb x)), .slice a1 ((words x.natAbs).length) ac1, .bool ((rb y)), .slice a2 ((words y.natAbs).length) ac2, .slice a3 ((words d).length) ac3])] [(po1, words X.natAbs), (po2, words Y.natAbs), (po3, words D), (a3, words d), (a2, words y.natAbs), (a1, words x.natAbs)] []) _ ⟨0, x, y, d, a1, ac1, a2, ac2, a3, ac3, rfl, ⟨hn1, pwB_first fu fv, pwOut_first hd hu hv l1 l2 l3, ha1.ncap, ha2.ncap, ha3.ncap⟩, hA.keep _ ⟨rfl, rfl, rfl, rfl, rfl, rfl, rfl, rfl, rfl, trivial⟩, ((hS.pickR [(a1, words x.natAbs), (a2, words y.natAbs), (a3, words d), (a3, words d), (a2, words y.natAbs), (a1, words x.natAbs)] ⟨⟨2, rfl⟩, ⟨⟨1, rfl⟩, ⟨⟨0, rfl⟩, ⟨⟨0, rfl⟩, ⟨⟨1, rfl⟩, ⟨⟨2, rfl⟩, trivial⟩⟩⟩⟩⟩⟩).subL _ (.refl _))⟩ ?_
  clear hS hA
  rintro m a w12 ⟨i, X, Y, D, po1, poc1, po2, poc2, po3, poc3, rfl, hinv14, hA, hS⟩ K13 hK13
  obtain ⟨hi9, hB9, ⟨hD9, hX9, hY9, lX9, lY9, lD9⟩, kn1, kn2, kn3⟩ := hinv14
  have hS9 := pw_step hD9 hd hX9 hY9 hu hv
  have q1 := abs_mul_len lX9 l1
  have q2 := abs_mul_len lY9 l2
  have q3 := abs_mul_len lX9 l2
  have q4 := abs_mul_len lY9 l1
  have q5 := abs_add_len q1 (neg_len q2)
  have q6 := abs_add_len q3 q4
  have q7 := words_mul_length lD9 l3
  refine wp_seq_k (fun K15 hK15 => ?_)
  refine wp_region_lit ?_
  rcases Bool.eq_false_or_eq_true (decide (((i : Nat) : Int) < ((n - 1 : Nat) : Int))) with hb16 | hb16
  · have hb16' := of_decide_eq_true hb16
    refine seq_do (v := .bool true) hA rfl rfl rfl (does_bin rfl rfl (fun w => (bin_lss w).trans (by rw [hb16]))) ?_
    intro a hA
    refine seq_end ?_
    refine hK15 _ _ ?_
    refine wp_seq_k (fun K17 hK17 => ?_)
    refine wp_cond_true (hA.ev rfl) ?_
    refine wp_skip ?_
    refine hK17 _ _ ?_
    refine wp_seq_k (fun K18 hK18 => ?_)
    refine wp_block ?_
    refine wp_seq_k (fun K19 hK19 => ?_)
    refine wp_region_lit ?_
    refine seq_do (v := .agg #[.bool ((rb X)), .slice po1 ((words X.natAbs).length) poc1, .bool ((rb Y)), .slice po2 ((words Y.natAbs).length) poc2, .slice po3 ((words D).length) poc3]) hA rfl rfl rfl (does_loadS hS ExU_isS_48 rfl 0 rfl (cs := [.bool ((rb X)), .slice po1 ((words X.natAbs).length) poc1, .bool ((rb Y)), .slice po2 ((words Y.natAbs).length) poc2, .slice po3 ((words D).length) poc3]) rfl rfl) ?_
    intro a hA
    refine seq_do (v := .agg #[.bool ((rb x)), .slice a1 ((words x.natAbs).length) ac1, .bool ((rb y)), .slice a2 ((words y.natAbs).length) ac2, .slice a3 ((words d).length) ac3]) hA rfl rfl rfl (does_loadS hS ExU_isS_48 rfl 2 rfl (cs := [.bool ((rb x)), .slice a1 ((words x.natAbs).length) ac1, .bool ((rb y)), .slice a2 ((words y.natAbs).length) ac2, .slice a3 ((words d).length) ac3]) rfl rfl) ?_
    intro a hA
    refine seq_call hA rfl rfl rfl (enters_func  rfl rfl (fun w => by kernel_rfl)) (zproduct_any ⟨(hS.rd 0 rfl), kn1.1, kn1.2⟩ ⟨(hS.rd 1 rfl), kn2.1, kn2.2⟩ ⟨(hS.rd 2 rfl), kn3.1, kn3.2⟩ ⟨(hS.rd 5 rfl), ha1.nil, ha1.cap⟩ ⟨(hS.rd 4 rfl), ha2.nil, ha2.cap⟩ ⟨(hS.rd 3 rfl), ha3.nil, ha3.cap⟩ (by omega) (by omega) (by omega) (by omega) (by omega) (by omega)) ?_
    rintro _ w25 ⟨p20_1, p20_c1, p20_2, p20_c2, p20_3, p20_c3, rfl, hs21, hs22, hs23, hb24⟩
    replace hS := hS.call hb24
    replace hS := hS.addR hs21.rd
    replace hS := hS.addR hs22.rd
    replace hS := hS.addR hs23.rd
    refine ⟨_, rfl, ?_⟩
    intro a hA
    refine seq_store (us := [.bool ((rb (X * x + -(Y * y)))), .slice p20_1 ((words (X * x + -(Y * y)).natAbs).length) p20_c1, .bool ((rb (X * y + Y * x))), .slice p20_2 ((words (X * y + Y * x).natAbs).length) p20_c2, .slice p20_3 ((words (D * d)).length) p20_c3]) hA hS rfl rfl (sets_store (cs := [.bool ((rb (X * x + -(Y * y)))), .slice p20_1 ((words (X * x + -(Y * y)).natAbs).length) p20_c1, .bool ((rb (X * y + Y * x))), .slice p20_2 ((words (X * y + Y * x).natAbs).length) p20_c2, .slice p20_3 ((words (D * d)).length) p20_c3]) rfl rfl rfl (by kernel_rfl) hS 0 rfl rfl rfl) 0 rfl rfl rfl rfl ?_
    intro w26 hS
    refine seq_end ?_
    refine hK19 _ _ ?_
    refine wp_seq_k (fun K27 hK27 => ?_)
    refine wp_seq_k (fun K28 hK28 => ?_)
    refine wp_region_lit ?_
    refine seq_do (v := .pointer (some ⟨g7, 0, none⟩)) hA rfl rfl rfl (does_field ExU_fld_48_0 rfl rfl) ?_
    intro a hA
    refine seq_do (v := .pointer (some ⟨g7, 1, none⟩)) hA rfl rfl rfl (does_field ExU_fld_46_1 rfl rfl) ?_
    intro a hA
    refine seq_do hA rfl rfl rfl (does_load1 hS ExU_is1_22 rfl 0 rfl rfl) ?_
    intro a hA
    rcases Bool.eq_false_or_eq_true (decide ((words (X * x + -(Y * y)).natAbs).length ≤ 512)) with hb29 | hb29
    · have hb29' := of_decide_eq_true hb29
      refine seq_call hA rfl rfl rfl (enters_func  rfl rfl (fun w => by kernel_rfl)) (soundB_any _ (hS.rd 2 rfl) (by omega) hb29) ?_
      rintro _ w31 ⟨rfl, hb30⟩
      replace hb30 := below_eq hb30
      replace hS := hS.call hb30
      refine ⟨_, rfl, ?_⟩
      intro a hA
      refine seq_do hA rfl rfl rfl (does_move rfl) ?_
      intro a hA
      refine seq_do (v := .pointer (some ⟨g7, 2, none⟩)) hA rfl rfl rfl (does_field ExU_fld_48_1 rfl rfl) ?_
      intro a hA
      refine seq_do (v := .pointer (some ⟨g7, 3, none⟩)) hA rfl rfl rfl (does_field ExU_fld_46_1 rfl rfl) ?_
      intro a hA
      refine seq_do hA rfl rfl rfl (does_load1 hS ExU_is1_22 rfl 0 rfl rfl) ?_
      intro a hA
      rcases Bool.eq_false_or_eq_true (decide ((words (X * y + Y * x).natAbs).length ≤ 512)) with hb32 | hb32
      · have hb32' := of_decide_eq_true hb32
        refine seq_call hA rfl rfl rfl (enters_func  rfl rfl (fun w => by kernel_rfl)) (soundB_any _ (hS.rd 1 rfl) (by omega) hb32) ?_
        rintro _ w34 ⟨rfl, hb33⟩
        replace hb33 := below_eq hb33
        replace hS := hS.call hb33
        refine ⟨_, rfl, ?_⟩
        intro a hA
        refine seq_do (v := .bool true) hA rfl rfl rfl (does_pick rfl rfl rfl rfl) ?_
        intro a hA
        refine seq_do hA rfl rfl rfl (does_move rfl) ?_
        intro a hA
        refine seq_do (v := .pointer (some ⟨g7, 4, none⟩)) hA rfl rfl rfl (does_field ExU_fld_48_2 rfl rfl) ?_
        intro a hA
        refine seq_do hA rfl rfl rfl (does_load1 hS ExU_is1_22 rfl 0 rfl rfl) ?_
        intro a hA
        rcases Bool.eq_false_or_eq_true (decide ((words (D * d)).length ≤ 512)) with hb35 | hb35
        · have hb35' := of_decide_eq_true hb35
          refine seq_call hA rfl rfl rfl (enters_func  rfl rfl (fun w => by kernel_rfl)) (soundB_any _ (hS.rd 0 rfl) (by omega) hb35) ?_
          rintro _ w37 ⟨rfl, hb36⟩
          replace hb36 := below_eq hb36
          replace hS := hS.call hb36
          refine ⟨_, rfl, ?_⟩
          intro a hA
          refine seq_do (v := .bool true) hA rfl rfl rfl (does_pick rfl rfl rfl rfl) ?_
          intro a hA
          refine seq_end ?_
          refine hK28 _ _ ?_
          refine wp_cond_true (hA.ev rfl) ?_
          refine wp_exit ?_
          refine hK18 _ _ ?_
          refine wp_region_lit ?_
          refine seq_do (v := .int .i64 (((i + 1 : Nat) : Int))) hA rfl rfl rfl (does_bin rfl rfl (fun w => (bin_add (i64In (by omega) (by omega)) w).trans (by rw [show (((i : Nat) : Int) + 1 : Int) = ((i + 1 : Nat) : Int) from by omega]))) ?_
          intro a hA
          refine seq_do hA rfl rfl rfl (does_move rfl) ?_
          intro a hA
          refine seq_end ?_
          refine hK13 _ _ _ (by omega) ⟨i + 1, X * x + -(Y * y), X * y + Y * x, D * d, p20_1, p20_c1, p20_2, p20_c2, p20_3, p20_c3, rfl, ⟨by omega, pwB_step hB9 (fit_mk (Nat.mul_ne_zero hD9 hd) (of_decide_eq_true hb29) (of_decide_eq_true hb35) hS9.1) (fit_mk (Nat.mul_ne_zero hD9 hd) (of_decide_eq_true hb32) (of_decide_eq_true hb35) hS9.2), ⟨Nat.mul_ne_zero hD9 hd, hS9.1, hS9.2, Nat.le_trans (of_decide_eq_true hb29) (by decide), Nat.le_trans (of_decide_eq_true hb32) (by decide), Nat.le_trans (of_decide_eq_true hb35) (by decide)⟩, ⟨hs21.nil, hs21.cap⟩, ⟨hs22.nil, hs22.cap⟩, ⟨hs23.nil, hs23.cap⟩⟩, hA.keep _ ⟨rfl, rfl, rfl, rfl, rfl, rfl, rfl, rfl, rfl, trivial⟩, ((hS.pickR [(p20_1, words (X * x + -(Y * y)).natAbs), (p20_2, words (X * y + Y * x).natAbs), (p20_3, words (D * d)), (a3, words d), (a2, words y.natAbs), (a1, words x.natAbs)] ⟨⟨2, rfl⟩, ⟨⟨1, rfl⟩, ⟨⟨0, rfl⟩, ⟨⟨6, rfl⟩, ⟨⟨7, rfl⟩, ⟨⟨8, rfl⟩, trivial⟩⟩⟩⟩⟩⟩).subL _ (.refl _))⟩
        · have hb35' := of_decide_eq_false hb35
          refine seq_call hA rfl rfl rfl (enters_func  rfl rfl (fun w => by kernel_rfl)) (soundB_any _ (hS.rd 0 rfl) (by omega) hb35) ?_
          rintro _ w39 ⟨rfl, hb38⟩
          replace hb38 := below_eq hb38
          replace hS := hS.call hb38
          refine ⟨_, rfl, ?_⟩
          intro a hA
          refine seq_do (v := .bool false) hA rfl rfl rfl (does_pick rfl rfl rfl rfl) ?_
          intro a hA
          refine seq_end ?_
          refine hK28 _ _ ?_
          refine wp_cond_false (hA.ev rfl) ?_
          refine wp_skip ?_
          refine hK27 _ _ ?_
          refine wp_seq_k (fun K40 hK40 => ?_)
          refine wp_region_lit ?_
          refine seq_do (v := .agg #[.bool ((rb (X * x + -(Y * y)))), .slice p20_1 ((words (X * x + -(Y * y)).natAbs).length) p20_c1, .bool ((rb (X * y + Y * x))), .slice p20_2 ((words (X * y + Y * x).natAbs).length) p20_c2, .slice p20_3 ((words (D * d)).length) p20_c3]) hA rfl rfl rfl (does_loadS hS ExU_isS_48 rfl 0 rfl (cs := [.bool ((rb (X * x + -(Y * y)))), .slice p20_1 ((words (X * x + -(Y * y)).natAbs).length) p20_c1, .bool ((rb (X * y + Y * x))), .slice p20_2 ((words (X * y + Y * x).natAbs).length) p20_c2, .slice p20_3 ((words (D * d)).length) p20_c3]) rfl rfl) ?_
          intro a hA
          rcases Bool.eq_false_or_eq_true (fitB (pwR u v (i + 1 + 1))) with hb41 | hb41
          · refine seq_call hA rfl rfl rfl (enters_func  rfl rfl (fun w => by kernel_rfl)) (zsettle_as ⟨(hS.rd 2 rfl), hs21.nil, hs21.cap⟩ ⟨(hS.rd 1 rfl), hs22.nil, hs22.cap⟩ ⟨(hS.rd 0 rfl), hs23.nil, hs23.cap⟩ ((set_pw (Nat.mul_ne_zero hD9 hd) hS9.1 hS9.2).trans (ratS_fit (fitB_ok hb41).1 (fitB_ok hb41).2)) (by omega) (by omega) (by omega) (Nat.mul_ne_zero hD9 hd)) ?_
            rintro _ w45 ⟨p42_1, p42_c1, p42_2, p42_c2, p42_3, p42_c3, p42_4, p42_c4, rfl, hn43, hb44⟩
            replace hS := hS.call hb44
            replace hS := hS.addR hn43.s1.rd
            replace hS := hS.addR hn43.s2.rd
            replace hS := hS.addR hn43.s3.rd
            replace hS := hS.addR hn43.s4.rd
            refine ⟨_, rfl, ?_⟩
            intro a hA
            refine seq_do hA rfl rfl rfl (does_move rfl) ?_
            intro a hA
            refine seq_do (v := .agg #[.bool (rb (pwR u v (i + 1 + 1)).1.num), .slice p42_1 ((words (pwR u v (i + 1 + 1)).1.num.natAbs).length) p42_c1, .slice p42_2 ((words (pwR u v (i + 1 + 1)).1.den).length) p42_c2, .bool (rb (pwR u v (i + 1 + 1)).2.num), .slice p42_3 ((words (pwR u v (i + 1 + 1)).2.num.natAbs).length) p42_c3, .slice p42_4 ((words (pwR u v (i + 1 + 1)).2.den).length) p42_c4]) hA rfl rfl rfl (does_extract (vs := [.agg #[.bool (rb (pwR u v (i + 1 + 1)).1.num), .slice p42_1 ((words (pwR u v (i + 1 + 1)).1.num.natAbs).length) p42_c1, .slice p42_2 ((words (pwR u v (i + 1 + 1)).1.den).length) p42_c2, .bool (rb (pwR u v (i + 1 + 1)).2.num), .slice p42_3 ((words (pwR u v (i + 1 + 1)).2.num.natAbs).length) p42_c3, .slice p42_4 ((words (pwR u v (i + 1 + 1)).2.den).length) p42_c4], .int .i64 0]) rfl rfl) ?_
            intro a hA
            refine seq_do (v := .int .i64 0) hA rfl rfl rfl (does_extract (vs := [.agg #[.bool (rb (pwR u v (i + 1 + 1)).1.num), .slice p42_1 ((words (pwR u v (i + 1 + 1)).1.num.natAbs).length) p42_c1, .slice p42_2 ((words (pwR u v (i + 1 + 1)).1.den).length) p42_c2, .bool (rb (pwR u v (i + 1 + 1)).2.num), .slice p42_3 ((words (pwR u v (i + 1 + 1)).2.num.natAbs).length) p42_c3, .slice p42_4 ((words (pwR u v (i + 1 + 1)).2.den).length) p42_c4], .int .i64 0]) rfl rfl) ?_
            intro a hA
            refine seq_new (vs := [.bool false, .slice none 0 0, .slice none 0 0, .bool false, .slice none 0 0, .slice none 0 0]) (t := 26) hA hS rfl rfl rfl (fun g => .pointer (some ⟨g, 0, none⟩)) (does_alloc (z := .agg #[.bool false, .slice none 0 0, .slice none 0 0, .bool false, .slice none 0 0, .slice none 0 0]) (by kernel_rfl) rfl) rfl ?_
            intro g46 w47 hS a hA
            refine seq_store (us := [.bool (rb (pwR u v (i + 1 + 1)).1.num), .slice p42_1 ((words (pwR u v (i + 1 + 1)).1.num.natAbs).length) p42_c1, .slice p42_2 ((words (pwR u v (i + 1 + 1)).1.den).length) p42_c2, .bool (rb (pwR u v (i + 1 + 1)).2.num), .slice p42_3 ((words (pwR u v (i + 1 + 1)).2.num.natAbs).length) p42_c3, .slice p42_4 ((words (pwR u v (i + 1 + 1)).2.den).length) p42_c4]) hA hS rfl rfl (sets_store (cs := [.bool (rb (pwR u v (i + 1 + 1)).1.num), .slice p42_1 ((words (pwR u v (i + 1 + 1)).1.num.natAbs).length) p42_c1, .slice p42_2 ((words (pwR u v (i + 1 + 1)).1.den).length) p42_c2, .bool (rb (pwR u v (i + 1 + 1)).2.num), .slice p42_3 ((words (pwR u v (i + 1 + 1)).2.num.natAbs).length) p42_c3, .slice p42_4 ((words (pwR u v (i + 1 + 1)).2.den).length) p42_c4]) rfl rfl rfl (by kernel_rfl) hS 0 rfl rfl rfl) 0 rfl rfl rfl rfl ?_
            intro w48 hS
            refine seq_do hA rfl rfl rfl (does_assign rfl) ?_
            intro a hA
            refine seq_end ?_
            refine hK40 _ _ ?_
            refine wp_seq_k (fun K49 hK49 => ?_)
            refine wp_seq_k (fun K50 hK50 => ?_)
            refine wp_region_lit ?_
            refine seq_do hA rfl rfl rfl (does_move rfl) ?_
            intro a hA
            refine seq_do (v := .bool false) hA rfl rfl rfl (does_bin rfl rfl (fun w => by kernel_rfl)) ?_
            intro a hA
            refine seq_end ?_
            refine hK50 _ _ ?_
            refine wp_cond_false (hA.ev rfl) ?_
            refine wp_skip ?_
            refine hK49 _ _ ?_
            refine wp_region_lit ?_
            refine seq_do (v := .agg #[.bool (rb (pwR u v (i + 1 + 1)).1.num), .slice p42_1 ((words (pwR u v (i + 1 + 1)).1.num.natAbs).length) p42_c1, .slice p42_2 ((words (pwR u v (i + 1 + 1)).1.den).length) p42_c2, .bool (rb (pwR u v (i + 1 + 1)).2.num), .slice p42_3 ((words (pwR u v (i + 1 + 1)).2.num.natAbs).length) p42_c3, .slice p42_4 ((words (pwR u v (i + 1 + 1)).2.den).length) p42_c4]) hA rfl rfl rfl (does_loadS hS ExU_isS_26 rfl 0 rfl (cs := [.bool (rb (pwR u v (i + 1 + 1)).1.num), .slice p42_1 ((words (pwR u v (i + 1 + 1)).1.num.natAbs).length) p42_c1, .slice p42_2 ((words (pwR u v (i + 1 + 1)).1.den).length) p42_c2, .bool (rb (pwR u v (i + 1 + 1)).2.num), .slice p42_3 ((words (pwR u v (i + 1 + 1)).2.num.natAbs).length) p42_c3, .slice p42_4 ((words (pwR u v (i + 1 + 1)).2.den).length) p42_c4]) rfl rfl) ?_
            intro a hA
            refine seq_call hA rfl rfl rfl (enters_func  rfl rfl (fun w => by kernel_rfl)) (zspread_any (u := (pwR u v (i + 1 + 1)).1) (v := (pwR u v (i + 1 + 1)).2) (show Nm _ (Q6.rat (pwR u v (i + 1 + 1)).1 (pwR u v (i + 1 + 1)).2) p42_1 p42_c1 p42_2 p42_c2 p42_3 p42_c3 p42_4 p42_c4 from ⟨⟨(hS.rd 3 rfl), hn43.s1.nil, hn43.s1.cap⟩, ⟨(hS.rd 2 rfl), hn43.s2.nil, hn43.s2.cap⟩, ⟨(hS.rd 1 rfl), hn43.s3.nil, hn43.s3.cap⟩, ⟨(hS.rd 0 rfl), hn43.s4.nil, hn43.s4.cap⟩⟩) (fitB_ok hb41).1 (fitB_ok hb41).2) ?_
            rintro _ w56 ⟨p51_1, p51_c1, p51_2, p51_c2, p51_3, p51_c3, rfl, hs52, hs53, hs54, hb55⟩
            replace hS := hS.call hb55
            replace hS := hS.addR hs52.rd
            replace hS := hS.addR hs53.rd
            replace hS := hS.addR hs54.rd
            refine ⟨_, rfl, ?_⟩
            intro a hA
            refine seq_store (us := [.bool ((rb (spX (pwR u v (i + 1 + 1)).1 (pwR u v (i + 1 + 1)).2))), .slice p51_1 ((words (spX (pwR u v (i + 1 + 1)).1 (pwR u v (i + 1 + 1)).2).natAbs).length) p51_c1, .bool ((rb (spY (pwR u v (i + 1 + 1)).1 (pwR u v (i + 1 + 1)).2))), .slice p51_2 ((words (spY (pwR u v (i + 1 + 1)).1 (pwR u v (i + 1 + 1)).2).natAbs).length) p51_c2, .slice p51_3 ((words (spD (pwR u v (i + 1 + 1)).1 (pwR u v (i + 1 + 1)).2)).length) p51_c3]) hA hS rfl rfl (sets_store (cs := [.bool ((rb (spX (pwR u v (i + 1 + 1)).1 (pwR u v (i + 1 + 1)).2))), .slice p51_1 ((words (spX (pwR u v (i + 1 + 1)).1 (pwR u v (i + 1 + 1)).2).natAbs).length) p51_c1, .bool ((rb (spY (pwR u v (i + 1 + 1)).1 (pwR u v (i + 1 + 1)).2))), .slice p51_2 ((words (spY (pwR u v (i + 1 + 1)).1 (pwR u v (i + 1 + 1)).2).natAbs).length) p51_c2, .slice p51_3 ((words (spD (pwR u v (i + 1 + 1)).1 (pwR u v (i + 1 + 1)).2)).length) p51_c3]) rfl rfl rfl (by kernel_rfl) hS 1 rfl rfl rfl) 1 rfl rfl rfl rfl ?_
            intro w57 hS
            refine seq_end ?_
            refine hK18 _ _ ?_
            refine wp_region_lit ?_
            refine seq_do (v := .int .i64 (((i + 1 : Nat) : Int))) hA rfl rfl rfl (does_bin rfl rfl (fun w => (bin_add (i64In (by omega) (by omega)) w).trans (by rw [show (((i : Nat) : Int) + 1 : Int) = ((i + 1 : Nat) : Int) from by omega]))) ?_
            intro a hA
            refine seq_do hA rfl rfl rfl (does_move rfl) ?_
            intro a hA
            refine seq_end ?_
            refine hK13 _ _ _ (by omega) ⟨i + 1, spX (pwR u v (i + 1 + 1)).1 (pwR u v (i + 1 + 1)).2, spY (pwR u v (i + 1 + 1)).1 (pwR u v (i + 1 + 1)).2, spD (pwR u v (i + 1 + 1)).1 (pwR u v (i + 1 + 1)).2, p51_1, p51_c1, p51_2, p51_c2, p51_3, p51_c3, rfl, ⟨by omega, pwB_step hB9 (fitB_ok hb41).1 (fitB_ok hb41).2, ⟨spD_ne _ _, spX_mk _ _, spY_mk _ _, spX_len (fitB_ok hb41).1 (fitB_ok hb41).2, spY_len (fitB_ok hb41).1 (fitB_ok hb41).2, spD_len (fitB_ok hb41).1 (fitB_ok hb41).2⟩, ⟨hs52.nil, hs52.cap⟩, ⟨hs53.nil, hs53.cap⟩, ⟨hs54.nil, hs54.cap⟩⟩, hA.keep _ ⟨rfl, rfl, rfl, rfl, rfl, rfl, rfl, rfl, rfl, trivial⟩, ((hS.pickR [(p51_1, words (spX (pwR u v (i + 1 + 1)).1 (pwR u v (i + 1 + 1)).2).natAbs), (p51_2, words (spY (pwR u v (i + 1 + 1)).1 (pwR u v (i + 1 + 1)).2).natAbs), (p51_3, words (spD (pwR u v (i + 1 + 1)).1 (pwR u v (i + 1 + 1)).2)), (a3, words d), (a2, words y.natAbs), (a1, words x.natAbs)] ⟨⟨2, rfl⟩, ⟨⟨1, rfl⟩, ⟨⟨0, rfl⟩, ⟨⟨13, rfl⟩, ⟨⟨14, rfl⟩, ⟨⟨15, rfl⟩, trivial⟩⟩⟩⟩⟩⟩).subL _ (.cons _ (.cons_cons _ (.cons_cons _ (.cons_cons _ .slnil)))))⟩
          · refine seq_call hA rfl rfl rfl (enters_func  rfl rfl (fun w => by kernel_rfl)) (zsettle_as ⟨(hS.rd 2 rfl), hs21.nil, hs21.cap⟩ ⟨(hS.rd 1 rfl), hs22.nil, hs22.cap⟩ ⟨(hS.rd 0 rfl), hs23.nil, hs23.cap⟩ ((set_pw (Nat.mul_ne_zero hD9 hd) hS9.1 hS9.2).trans (ratS_no (fitB_no hb41))) (by omega) (by omega) (by omega) (Nat.mul_ne_zero hD9 hd)) ?_
            rintro _ w61 ⟨p58_1, p58_c1, p58_2, p58_c2, p58_3, p58_c3, p58_4, p58_c4, rfl, hn59, hb60⟩
            replace hS := hS.call hb60
            replace hS := hS.addR hn59.s1.rd
            replace hS := hS.addR hn59.s2.rd
            replace hS := hS.addR hn59.s3.rd
            replace hS := hS.addR hn59.s4.rd
            refine ⟨_, rfl, ?_⟩
            intro a hA
            refine seq_do hA rfl rfl rfl (does_move rfl) ?_
            intro a hA
            refine seq_do (v := .agg #[.bool false, .slice p58_1 0 p58_c1, .slice p58_2 0 p58_c2, .bool false, .slice p58_3 0 p58_c3, .slice p58_4 0 p58_c4]) hA rfl rfl rfl (does_extract (vs := [.agg #[.bool false, .slice p58_1 0 p58_c1, .slice p58_2 0 p58_c2, .bool false, .slice p58_3 0 p58_c3, .slice p58_4 0 p58_c4], .int .i64 4]) rfl rfl) ?_
            intro a hA
            refine seq_do (v := .int .i64 4) hA rfl rfl rfl (does_extract (vs := [.agg #[.bool false, .slice p58_1 0 p58_c1, .slice p58_2 0 p58_c2, .bool false, .slice p58_3 0 p58_c3, .slice p58_4 0 p58_c4], .int .i64 4]) rfl rfl) ?_
            intro a hA
            refine seq_new (vs := [.bool false, .slice none 0 0, .slice none 0 0, .bool false, .slice none 0 0, .slice none 0 0]) (t := 26) hA hS rfl rfl rfl (fun g => .pointer (some ⟨g, 0, none⟩)) (does_alloc (z := .agg #[.bool false, .slice none 0 0, .slice none 0 0, .bool false, .slice none 0 0, .slice none 0 0]) (by kernel_rfl) rfl) rfl ?_
            intro g62 w63 hS a hA
            refine seq_store (us := [.bool false, .slice p58_1 0 p58_c1, .slice p58_2 0 p58_c2, .bool false, .slice p58_3 0 p58_c3, .slice p58_4 0 p58_c4]) hA hS rfl rfl (sets_store (cs := [.bool false, .slice p58_1 0 p58_c1, .slice p58_2 0 p58_c2, .bool false, .slice p58_3 0 p58_c3, .slice p58_4 0 p58_c4]) rfl rfl rfl (by kernel_rfl) hS 0 rfl rfl rfl) 0 rfl rfl rfl rfl ?_
            intro w64 hS
            refine seq_do hA rfl rfl rfl (does_assign rfl) ?_
            intro a hA
            refine seq_end ?_
            refine hK40 _ _ ?_
            refine wp_seq_k (fun K65 hK65 => ?_)
            refine wp_seq_k (fun K66 hK66 => ?_)
            refine wp_region_lit ?_
            refine seq_do hA rfl rfl rfl (does_move rfl) ?_
            intro a hA
            refine seq_do (v := .bool true) hA rfl rfl rfl (does_bin rfl rfl (fun w => by kernel_rfl)) ?_
            intro a hA
            refine seq_end ?_
            refine hK66 _ _ ?_
            refine wp_cond_true (hA.ev rfl) ?_
            refine wp_seq_k (fun K67 hK67 => ?_)
            refine wp_region_lit ?_
            refine seq_do (v := .agg #[.bool false, .slice none 0 0, .bool false, .slice none 0 0, .slice none 0 0]) hA rfl rfl rfl (does_build rfl (fun w => by kernel_rfl)) ?_
            intro a hA
            refine seq_do hA rfl rfl rfl (does_move rfl) ?_
            intro a hA
            refine seq_store (us := [.bool false, .slice none 0 0, .bool false, .slice none 0 0, .slice none 0 0]) hA hS rfl rfl (sets_store (cs := [.bool false, .slice none 0 0, .bool false, .slice none 0 0, .slice none 0 0]) rfl rfl rfl (by kernel_rfl) hS 2 rfl rfl rfl) 2 rfl rfl rfl rfl ?_
            intro w68 hS
            refine seq_do hA rfl rfl rfl (does_assign rfl) ?_
            intro a hA
            refine seq_end ?_
            refine hK67 _ _ ?_
            refine wp_ret ?_
            refine hret _ _ ?_
            refine ends (v := .tuple #[.agg #[.bool false, .slice none 0 0, .bool false, .slice none 0 0, .slice none 0 0], .int .i64 4]) hA rfl (.cons (res_cell hS ExU_isS_48 rfl 2 rfl (cs := [.bool false, .slice none 0 0, .bool false, .slice none 0 0, .slice none 0 0]) rfl rfl) (.cons (res_tmp rfl) .nil)) rfl ?_
            exact .inr ⟨pwB_stop (k := i + 1 + 1) (by omega) (fitB_no hb41), rfl, hS.bel⟩
      · have hb32' := of_decide_eq_false hb32
        refine seq_call hA rfl rfl rfl (enters_func  rfl rfl (fun w => by kernel_rfl)) (soundB_any _ (hS.rd 1 rfl) (by omega) hb32) ?_
        rintro _ w70 ⟨rfl, hb69⟩
        replace hb69 := below_eq hb69
        replace hS := hS.call hb69
        refine ⟨_, rfl, ?_⟩
        intro a hA
        refine seq_do (v := .bool false) hA rfl rfl rfl (does_pick rfl rfl rfl rfl) ?_
        intro a hA
        refine seq_do hA rfl rfl rfl (does_move rfl) ?_
        intro a hA
        refine seq_skip hA rfl rfl rfl ?_
        intro a hA
        refine seq_skip hA rfl rfl rfl ?_
        intro a hA
        refine seq_skip hA rfl rfl rfl ?_
        intro a hA
        refine seq_do (v := .bool false) hA rfl rfl rfl (does_pick rfl rfl rfl rfl) ?_
        intro a hA
        refine seq_end ?_
        refine hK28 _ _ ?_
        refine wp_cond_false (hA.ev rfl) ?_
        refine wp_skip ?_
        refine hK27 _ _ ?_
        refine wp_seq_k (fun K71 hK71 => ?_)
        refine wp_region_lit ?_
        refine seq_do (v := .agg #[.bool ((rb (X * x + -(Y * y)))), .slice p20_1 ((words (X * x + -(Y * y)).natAbs).length) p20_c1, .bool ((rb (X * y + Y * x))), .slice p20_2 ((words (X * y + Y * x).natAbs).length) p20_c2, .slice p20_3 ((words (D * d)).length) p20_c3]) hA rfl rfl rfl (does_loadS hS ExU_isS_48 rfl 0 rfl (cs := [.bool ((rb (X * x + -(Y * y)))), .slice p20_1 ((words (X * x + -(Y * y)).natAbs).length) p20_c1, .bool ((rb (X * y + Y * x))), .slice p20_2 ((words (X * y + Y * x).natAbs).length) p20_c2, .slice p20_3 ((words (D * d)).length) p20_c3]) rfl rfl) ?_
        intro a hA
        rcases Bool.eq_false_or_eq_true (fitB (pwR u v (i + 1 + 1))) with hb72 | hb72
        · refine seq_call hA rfl rfl rfl (enters_func  rfl rfl (fun w => by kernel_rfl)) (zsettle_as ⟨(hS.rd 2 rfl), hs21.nil, hs21.cap⟩ ⟨(hS.rd 1 rfl), hs22.nil, hs22.cap⟩ ⟨(hS.rd 0 rfl), hs23.nil, hs23.cap⟩ ((set_pw (Nat.mul_ne_zero hD9 hd) hS9.1 hS9.2).trans (ratS_fit (fitB_ok hb72).1 (fitB_ok hb72).2)) (by omega) (by omega) (by omega) (Nat.mul_ne_zero hD9 hd)) ?_
          rintro _ w76 ⟨p73_1, p73_c1, p73_2, p73_c2, p73_3, p73_c3, p73_4, p73_c4, rfl, hn74, hb75⟩
          replace hS := hS.call hb75
          replace hS := hS.addR hn74.s1.rd
          replace hS := hS.addR hn74.s2.rd
          replace hS := hS.addR hn74.s3.rd
          replace hS := hS.addR hn74.s4.rd
          refine ⟨_, rfl, ?_⟩
          intro a hA
          refine seq_do hA rfl rfl rfl (does_move rfl) ?_
          intro a hA
          refine seq_do (v := .agg #[.bool (rb (pwR u v (i + 1 + 1)).1.num), .slice p73_1 ((words (pwR u v (i + 1 + 1)).1.num.natAbs).length) p73_c1, .slice p73_2 ((words (pwR u v (i + 1 + 1)).1.den).length) p73_c2, .bool (rb (pwR u v (i + 1 + 1)).2.num), .slice p73_3 ((words (pwR u v (i + 1 + 1)).2.num.natAbs).length) p73_c3, .slice p73_4 ((words (pwR u v (i + 1 + 1)).2.den).length) p73_c4]) hA rfl rfl rfl (does_extract (vs := [.agg #[.bool (rb (pwR u v (i + 1 + 1)).1.num), .slice p73_1 ((words (pwR u v (i + 1 + 1)).1.num.natAbs).length) p73_c1, .slice p73_2 ((words (pwR u v (i + 1 + 1)).1.den).length) p73_c2, .bool (rb (pwR u v (i + 1 + 1)).2.num), .slice p73_3 ((words (pwR u v (i + 1 + 1)).2.num.natAbs).length) p73_c3, .slice p73_4 ((words (pwR u v (i + 1 + 1)).2.den).length) p73_c4], .int .i64 0]) rfl rfl) ?_
          intro a hA
          refine seq_do (v := .int .i64 0) hA rfl rfl rfl (does_extract (vs := [.agg #[.bool (rb (pwR u v (i + 1 + 1)).1.num), .slice p73_1 ((words (pwR u v (i + 1 + 1)).1.num.natAbs).length) p73_c1, .slice p73_2 ((words (pwR u v (i + 1 + 1)).1.den).length) p73_c2, .bool (rb (pwR u v (i + 1 + 1)).2.num), .slice p73_3 ((words (pwR u v (i + 1 + 1)).2.num.natAbs).length) p73_c3, .slice p73_4 ((words (pwR u v (i + 1 + 1)).2.den).length) p73_c4], .int .i64 0]) rfl rfl) ?_
          intro a hA
          refine seq_new (vs := [.bool false, .slice none 0 0, .slice none 0 0, .bool false, .slice none 0 0, .slice none 0 0]) (t := 26) hA hS rfl rfl rfl (fun g => .pointer (some ⟨g, 0, none⟩)) (does_alloc (z := .agg #[.bool false, .slice none 0 0, .slice none 0 0, .bool false, .slice none 0 0, .slice none 0 0]) (by kernel_rfl) rfl) rfl ?_
          intro g77 w78 hS a hA
          refine seq_store (us := [.bool (rb (pwR u v (i + 1 + 1)).1.num), .slice p73_1 ((words (pwR u v (i + 1 + 1)).1.num.natAbs).length) p73_c1, .slice p73_2 ((words (pwR u v (i + 1 + 1)).1.den).length) p73_c2, .bool (rb (pwR u v (i + 1 + 1)).2.num), .slice p73_3 ((words (pwR u v (i + 1 + 1)).2.num.natAbs).length) p73_c3, .slice p73_4 ((words (pwR u v (i + 1 + 1)).2.den).length) p73_c4]) hA hS rfl rfl (sets_store (cs := [.bool (rb (pwR u v (i + 1 + 1)).1.num), .slice p73_1 ((words (pwR u v (i + 1 + 1)).1.num.natAbs).length) p73_c1, .slice p73_2 ((words (pwR u v (i + 1 + 1)).1.den).length) p73_c2, .bool (rb (pwR u v (i + 1 + 1)).2.num), .slice p73_3 ((words (pwR u v (i + 1 + 1)).2.num.natAbs).length) p73_c3, .slice p73_4 ((words (pwR u v (i + 1 + 1)).2.den).length) p73_c4]) rfl rfl rfl (by kernel_rfl) hS 0 rfl rfl rfl) 0 rfl rfl rfl rfl ?_
          intro w79 hS
          refine seq_do hA rfl rfl rfl (does_assign rfl) ?_
          intro a hA
          refine seq_end ?_
          refine hK71 _ _ ?_
          refine wp_seq_k (fun K80 hK80 => ?_)
          refine wp_seq_k (fun K81 hK81 => ?_)
          refine wp_region_lit ?_
          refine seq_do hA rfl rfl rfl (does_move rfl) ?_
          intro a hA
          refine seq_do (v := .bool false) hA rfl rfl rfl (does_bin rfl rfl (fun w => by kernel_rfl)) ?_
          intro a hA
          refine seq_end ?_
          refine hK81 _ _ ?_
          refine wp_cond_false (hA.ev rfl) ?_
          refine wp_skip ?_
          refine hK80 _ _ ?_
          refine wp_region_lit ?_
          refine seq_do (v := .agg #[.bool (rb (pwR u v (i + 1 + 1)).1.num), .slice p73_1 ((words (pwR u v (i + 1 + 1)).1.num.natAbs).length) p73_c1, .slice p73_2 ((words (pwR u v (i + 1 + 1)).1.den).length) p73_c2, .bool (rb (pwR u v (i + 1 + 1)).2.num), .slice p73_3 ((words (pwR u v (i + 1 + 1)).2.num.natAbs).length) p73_c3, .slice p73_4 ((words (pwR u v (i + 1 + 1)).2.den).length) p73_c4]) hA rfl rfl rfl (does_loadS hS ExU_isS_26 rfl 0 rfl (cs := [.bool (rb (pwR u v (i + 1 + 1)).1.num), .slice p73_1 ((words (pwR u v (i + 1 + 1)).1.num.natAbs).length) p73_c1, .slice p73_2 ((words (pwR u v (i + 1 + 1)).1.den).length) p73_c2, .bool (rb (pwR u v (i + 1 + 1)).2.num), .slice p73_3 ((words (pwR u v (i + 1 + 1)).2.num.natAbs).length) p73_c3, .slice p73_4 ((words (pwR u v (i + 1 + 1)).2.den).length) p73_c4]) rfl rfl) ?_
          intro a hA
          refine seq_call hA rfl rfl rfl (enters_func  rfl rfl (fun w => by kernel_rfl)) (zspread_any (u := (pwR u v (i + 1 + 1)).1) (v := (pwR u v (i + 1 + 1)).2) (show Nm _ (Q6.rat (pwR u v (i + 1 + 1)).1 (pwR u v (i + 1 + 1)).2) p73_1 p73_c1 p73_2 p73_c2 p73_3 p73_c3 p73_4 p73_c4 from ⟨⟨(hS.rd 3 rfl), hn74.s1.nil, hn74.s1.cap⟩, ⟨(hS.rd 2 rfl), hn74.s2.nil, hn74.s2.cap⟩, ⟨(hS.rd 1 rfl), hn74.s3.nil, hn74.s3.cap⟩, ⟨(hS.rd 0 rfl), hn74.s4.nil, hn74.s4.cap⟩⟩) (fitB_ok hb72).1 (fitB_ok hb72).2) ?_
          rintro _ w87 ⟨p82_1, p82_c1, p82_2, p82_c2, p82_3, p82_c3, rfl, hs83, hs84, hs85, hb86⟩
          replace hS := hS.call hb86
          replace hS := hS.addR hs83.rd
          replace hS := hS.addR hs84.rd
          replace hS := hS.addR hs85.rd
          refine ⟨_, rfl, ?_⟩
          intro a hA
          refine seq_store (us := [.bool ((rb (spX (pwR u v (i + 1 + 1)).1 (pwR u v (i + 1 + 1)).2))), .slice p82_1 ((words (spX (pwR u v (i + 1 + 1)).1 (pwR u v (i + 1 + 1)).2).natAbs).length) p82_c1, .bool ((rb (spY (pwR u v (i + 1 + 1)).1 (pwR u v (i + 1 + 1)).2))), .slice p82_2 ((words (spY (pwR u v (i + 1 + 1)).1 (pwR u v (i + 1 + 1)).2).natAbs).length) p82_c2, .slice p82_3 ((words (spD (pwR u v (i + 1 + 1)).1 (pwR u v (i + 1 + 1)).2)).length) p82_c3]) hA hS rfl rfl (sets_store (cs := [.bool ((rb (spX (pwR u v (i + 1 + 1)).1 (pwR u v (i + 1 + 1)).2))), .slice p82_1 ((words (spX (pwR u v (i + 1 + 1)).1 (pwR u v (i + 1 + 1)).2).natAbs).length) p82_c1, .bool ((rb (spY (pwR u v (i + 1 + 1)).1 (pwR u v (i + 1 + 1)).2))), .slice p82_2 ((words (spY (pwR u v (i + 1 + 1)).1 (pwR u v (i + 1 + 1)).2).natAbs).length) p82_c2, .slice p82_3 ((words (spD (pwR u v (i + 1 + 1)).1 (pwR u v (i + 1 + 1)).2)).length) p82_c3]) rfl rfl rfl (by kernel_rfl) hS 1 rfl rfl rfl) 1 rfl rfl rfl rfl ?_
          intro w88 hS
          refine seq_end ?_
          refine hK18 _ _ ?_
          refine wp_region_lit ?_
          refine seq_do (v := .int .i64 (((i + 1 : Nat) : Int))) hA rfl rfl rfl (does_bin rfl rfl (fun w => (bin_add (i64In (by omega) (by omega)) w).trans (by rw [show (((i : Nat) : Int) + 1 : Int) = ((i + 1 : Nat) : Int) from by omega]))) ?_
          intro a hA
          refine seq_do hA rfl rfl rfl (does_move rfl) ?_
          intro a hA
          refine seq_end ?_
          refine hK13 _ _ _ (by omega) ⟨i + 1, spX (pwR u v (i + 1 + 1)).1 (pwR u v (i + 1 + 1)).2, spY (pwR u v (i + 1 + 1)).1 (pwR u v (i + 1 + 1)).2, spD (pwR u v (i + 1 + 1)).1 (pwR u v (i + 1 + 1)).2, p82_1, p82_c1, p82_2, p82_c2, p82_3, p82_c3, rfl, ⟨by omega, pwB_step hB9 (fitB_ok hb72).1 (fitB_ok hb72).2, ⟨spD_ne _ _, spX_mk _ _, spY_mk _ _, spX_len (fitB_ok hb72).1 (fitB_ok hb72).2, spY_len (fitB_ok hb72).1 (fitB_ok hb72).2, spD_len (fitB_ok hb72).1 (fitB_ok hb72).2⟩, ⟨hs83.nil, hs83.cap⟩, ⟨hs84.nil, hs84.cap⟩, ⟨hs85.nil, hs85.cap⟩⟩, hA.keep _ ⟨rfl, rfl, rfl, rfl, rfl, rfl, rfl, rfl, rfl, trivial⟩, ((hS.pickR [(p82_1, words (spX (pwR u v (i + 1 + 1)).1 (pwR u v (i + 1 + 1)).2).natAbs), (p82_2, words (spY (pwR u v (i + 1 + 1)).1 (pwR u v (i + 1 + 1)).2).natAbs), (p82_3, words (spD (pwR u v (i + 1 + 1)).1 (pwR u v (i + 1 + 1)).2)), (a3, words d), (a2, words y.natAbs), (a1, words x.natAbs)] ⟨⟨2, rfl⟩, ⟨⟨1, rfl⟩, ⟨⟨0, rfl⟩, ⟨⟨13, rfl⟩, ⟨⟨14, rfl⟩, ⟨⟨15, rfl⟩, trivial⟩⟩⟩⟩⟩⟩).subL _ (.cons _ (.cons_cons _ (.cons_cons _ (.cons_cons _ .slnil)))))⟩
        · refine seq_call hA rfl rfl rfl (enters_func  rfl rfl (fun w => by kernel_rfl)) (zsettle_as ⟨(hS.rd 2 rfl), hs21.nil, hs21.cap⟩ ⟨(hS.rd 1 rfl), hs22.nil, hs22.cap⟩ ⟨(hS.rd 0 rfl), hs23.nil, hs23.cap⟩ ((set_pw (Nat.mul_ne_zero hD9 hd) hS9.1 hS9.2).trans (ratS_no (fitB_no hb72))) (by omega) (by omega) (by omega) (Nat.mul_ne_zero hD9 hd)) ?_
          rintro _ w92 ⟨p89_1, p89_c1, p89_2, p89_c2, p89_3, p89_c3, p89_4, p89_c4, rfl, hn90, hb91⟩
          replace hS := hS.call hb91
          replace hS := hS.addR hn90.s1.rd
          replace hS := hS.addR hn90.s2.rd
          replace hS := hS.addR hn90.s3.rd
          replace hS := hS.addR hn90.s4.rd
          refine ⟨_, rfl, ?_⟩
          intro a hA
          refine seq_do hA rfl rfl rfl (does_move rfl) ?_
          intro a hA
          refine seq_do (v := .agg #[.bool false, .slice p89_1 0 p89_c1, .slice p89_2 0 p89_c2, .bool false, .slice p89_3 0 p89_c3, .slice p89_4 0 p89_c4]) hA rfl rfl rfl (does_extract (vs := [.agg #[.bool false, .slice p89_1 0 p89_c1, .slice p89_2 0 p89_c2, .bool false, .slice p89_3 0 p89_c3, .slice p89_4 0 p89_c4], .int .i64 4]) rfl rfl) ?_
          intro a hA
          refine seq_do (v := .int .i64 4) hA rfl rfl rfl (does_extract (vs := [.agg #[.bool false, .slice p89_1 0 p89_c1, .slice p89_2 0 p89_c2, .bool false, .slice p89_3 0 p89_c3, .slice p89_4 0 p89_c4], .int .i64 4]) rfl rfl) ?_
          intro a hA
          refine seq_new (vs := [.bool false, .slice none 0 0, .slice none 0 0, .bool false, .slice none 0 0, .slice none 0 0]) (t := 26) hA hS rfl rfl rfl (fun g => .pointer (some ⟨g, 0, none⟩)) (does_alloc (z := .agg #[.bool false, .slice none 0 0, .slice none 0 0, .bool false, .slice none 0 0, .slice none 0 0]) (by kernel_rfl) rfl) rfl ?_
          intro g93 w94 hS a hA
          refine seq_store (us := [.bool false, .slice p89_1 0 p89_c1, .slice p89_2 0 p89_c2, .bool false, .slice p89_3 0 p89_c3, .slice p89_4 0 p89_c4]) hA hS rfl rfl (sets_store (cs := [.bool false, .slice p89_1 0 p89_c1, .slice p89_2 0 p89_c2, .bool false, .slice p89_3 0 p89_c3, .slice p89_4 0 p89_c4]) rfl rfl rfl (by kernel_rfl) hS 0 rfl rfl rfl) 0 rfl rfl rfl rfl ?_
          intro w95 hS
          refine seq_do hA rfl rfl rfl (does_assign rfl) ?_
          intro a hA
          refine seq_end ?_
          refine hK71 _ _ ?_
          refine wp_seq_k (fun K96 hK96 => ?_)
          refine wp_seq_k (fun K97 hK97 => ?_)
          refine wp_region_lit ?_
          refine seq_do hA rfl rfl rfl (does_move rfl) ?_
          intro a hA
          refine seq_do (v := .bool true) hA rfl rfl rfl (does_bin rfl rfl (fun w => by kernel_rfl)) ?_
          intro a hA
          refine seq_end ?_
          refine hK97 _ _ ?_
          refine wp_cond_true (hA.ev rfl) ?_
          refine wp_seq_k (fun K98 hK98 => ?_)
          refine wp_region_lit ?_
          refine seq_do (v := .agg #[.bool false, .slice none 0 0, .bool false, .slice none 0 0, .slice none 0 0]) hA rfl rfl rfl (does_build rfl (fun w => by kernel_rfl)) ?_
          intro a hA
          refine seq_do hA rfl rfl rfl (does_move rfl) ?_
          intro a hA
          refine seq_store (us := [.bool false, .slice none 0 0, .bool false, .slice none 0 0, .slice none 0 0]) hA hS rfl rfl (sets_store (cs := [.bool false, .slice none 0 0, .bool false, .slice none 0 0, .slice none 0 0]) rfl rfl rfl (by kernel_rfl) hS 2 rfl rfl rfl) 2 rfl rfl rfl rfl ?_
          intro w99 hS
          refine seq_do hA rfl rfl rfl (does_assign rfl) ?_
          intro a hA
          refine seq_end ?_
          refine hK98 _ _ ?_
          refine wp_ret ?_
          refine hret _ _ ?_
          refine ends (v := .tuple #[.agg #[.bool false, .slice none 0 0, .bool false, .slice none 0 0, .slice none 0 0], .int .i64 4]) hA rfl (.cons (res_cell hS ExU_isS_48 rfl 2 rfl (cs := [.bool false, .slice none 0 0, .bool false, .slice none 0 0, .slice none 0 0]) rfl rfl) (.cons (res_tmp rfl) .nil)) rfl ?_
          exact .inr ⟨pwB_stop (k := i + 1 + 1) (by omega) (fitB_no hb72), rfl, hS.bel⟩
    · have hb29' := of_decide_eq_false hb29
      refine seq_call hA rfl rfl rfl (enters_func  rfl rfl (fun w => by kernel_rfl)) (soundB_any _ (hS.rd 2 rfl) (by omega) hb29) ?_
      rintro _ w101 ⟨rfl, hb100⟩
      replace hb100 := below_eq hb100
      replace hS := hS.call hb100
      refine ⟨_, rfl, ?_⟩
      intro a hA
      refine seq_do hA rfl rfl rfl (does_move rfl) ?_
      intro a hA
      refine seq_skip hA rfl rfl rfl ?_
      intro a hA
      refine seq_skip hA rfl rfl rfl ?_
      intro a hA
      refine seq_skip hA rfl rfl rfl ?_
      intro a hA
      refine seq_skip hA rfl rfl rfl ?_
      intro a hA
      refine seq_do (v := .bool false) hA rfl rfl rfl (does_pick rfl rfl rfl rfl) ?_
      intro a hA
      refine seq_do hA rfl rfl rfl (does_move rfl) ?_
      intro a hA
      refine seq_skip hA rfl rfl rfl ?_
      intro a hA
      refine seq_skip hA rfl rfl rfl ?_
      intro a hA
      refine seq_skip hA rfl rfl rfl ?_
      intro a hA
      refine seq_do (v := .bool false) hA rfl rfl rfl (does_pick rfl rfl rfl rfl) ?_
      intro a hA
      refine seq_end ?_
      refine hK28 _ _ ?_
      refine wp_cond_false (hA.ev rfl) ?_
      refine wp_skip ?_
      refine hK27 _ _ ?_
      refine wp_seq_k (fun K102 hK102 => ?_)
      refine wp_region_lit ?_
      refine seq_do (v := .agg #[.bool ((rb (X * x + -(Y * y)))), .slice p20_1 ((words (X * x + -(Y * y)).natAbs).length) p20_c1, .bool ((rb (X * y + Y * x))), .slice p20_2 ((words (X * y + Y * x).natAbs).length) p20_c2, .slice p20_3 ((words (D * d)).length) p20_c3]) hA rfl rfl rfl (does_loadS hS ExU_isS_48 rfl 0 rfl (cs := [.bool ((rb (X * x + -(Y * y)))), .slice p20_1 ((words (X * x + -(Y * y)).natAbs).length) p20_c1, .bool ((rb (X * y + Y * x))), .slice p20_2 ((words (X * y + Y * x).natAbs).length) p20_c2, .slice p20_3 ((words (D * d)).length) p20_c3]) rfl rfl) ?_
      intro a hA
      rcases Bool.eq_false_or_eq_true (fitB (pwR u v (i + 1 + 1))) with hb103 | hb103
      · refine seq_call hA rfl rfl rfl (enters_func  rfl rfl (fun w => by kernel_rfl)) (zsettle_as ⟨(hS.rd 2 rfl), hs21.nil, hs21.cap⟩ ⟨(hS.rd 1 rfl), hs22.nil, hs22.cap⟩ ⟨(hS.rd 0 rfl), hs23.nil, hs23.cap⟩ ((set_pw (Nat.mul_ne_zero hD9 hd) hS9.1 hS9.2).trans (ratS_fit (fitB_ok hb103).1 (fitB_ok hb103).2)) (by omega) (by omega) (by omega) (Nat.mul_ne_zero hD9 hd)) ?_
        rintro _ w107 ⟨p104_1, p104_c1, p104_2, p104_c2, p104_3, p104_c3, p104_4, p104_c4, rfl, hn105, hb106⟩
        replace hS := hS.call hb106
        replace hS := hS.addR hn105.s1.rd
        replace hS := hS.addR hn105.s2.rd
        replace hS := hS.addR hn105.s3.rd
        replace hS := hS.addR hn105.s4.rd
        refine ⟨_, rfl, ?_⟩
        intro a hA
        refine seq_do hA rfl rfl rfl (does_move rfl) ?_
        intro a hA
        refine seq_do (v := .agg #[.bool (rb (pwR u v (i + 1 + 1)).1.num), .slice p104_1 ((words (pwR u v (i + 1 + 1)).1.num.natAbs).length) p104_c1, .slice p104_2 ((words (pwR u v (i + 1 + 1)).1.den).length) p104_c2, .bool (rb (pwR u v (i + 1 + 1)).2.num), .slice p104_3 ((words (pwR u v (i + 1 + 1)).2.num.natAbs).length) p104_c3, .slice p104_4 ((words (pwR u v (i + 1 + 1)).2.den).length) p104_c4]) hA rfl rfl rfl (does_extract (vs := [.agg #[.bool (rb (pwR u v (i + 1 + 1)).1.num), .slice p104_1 ((words (pwR u v (i + 1 + 1)).1.num.natAbs).length) p104_c1, .slice p104_2 ((words (pwR u v (i + 1 + 1)).1.den).length) p104_c2, .bool (rb (pwR u v (i + 1 + 1)).2.num), .slice p104_3 ((words (pwR u v (i + 1 + 1)).2.num.natAbs).length) p104_c3, .slice p104_4 ((words (pwR u v (i + 1 + 1)).2.den).length) p104_c4], .int .i64 0]) rfl rfl) ?_
        intro a hA
        refine seq_do (v := .int .i64 0) hA rfl rfl rfl (does_extract (vs := [.agg #[.bool (rb (pwR u v (i + 1 + 1)).1.num), .slice p104_1 ((words (pwR u v (i + 1 + 1)).1.num.natAbs).length) p104_c1, .slice p104_2 ((words (pwR u v (i + 1 + 1)).1.den).length) p104_c2, .bool (rb (pwR u v (i + 1 + 1)).2.num), .slice p104_3 ((words (pwR u v (i + 1 + 1)).2.num.natAbs).length) p104_c3, .slice p104_4 ((words (pwR u v (i + 1 + 1)).2.den).length) p104_c4], .int .i64 0]) rfl rfl) ?_
        intro a hA
        refine seq_new (vs := [.bool false, .slice none 0 0, .slice none 0 0, .bool false, .slice none 0 0, .slice none 0 0]) (t := 26) hA hS rfl rfl rfl (fun g => .pointer (some ⟨g, 0, none⟩)) (does_alloc (z := .agg #[.bool false, .slice none 0 0, .slice none 0 0, .bool false, .slice none 0 0, .slice none 0 0]) (by kernel_rfl) rfl) rfl ?_
        intro g108 w109 hS a hA
        refine seq_store (us := [.bool (rb (pwR u v (i + 1 + 1)).1.num), .slice p104_1 ((words (pwR u v (i + 1 + 1)).1.num.natAbs).length) p104_c1, .slice p104_2 ((words (pwR u v (i + 1 + 1)).1.den).length) p104_c2, .bool (rb (pwR u v (i + 1 + 1)).2.num), .slice p104_3 ((words (pwR u v (i + 1 + 1)).2.num.natAbs).length) p104_c3, .slice p104_4 ((words (pwR u v (i + 1 + 1)).2.den).length) p104_c4]) hA hS rfl rfl (sets_store (cs := [.bool (rb (pwR u v (i + 1 + 1)).1.num), .slice p104_1 ((words (pwR u v (i + 1 + 1)).1.num.natAbs).length) p104_c1, .slice p104_2 ((words (pwR u v (i + 1 + 1)).1.den).length) p104_c2, .bool (rb (pwR u v (i + 1 + 1)).2.num), .slice p104_3 ((words (pwR u v (i + 1 + 1)).2.num.natAbs).length) p104_c3, .slice p104_4 ((words (pwR u v (i + 1 + 1)).2.den).length) p104_c4]) rfl rfl rfl (by kernel_rfl) hS 0 rfl rfl rfl) 0 rfl rfl rfl rfl ?_
        intro w110 hS
        refine seq_do hA rfl rfl rfl (does_assign rfl) ?_
        intro a hA
        refine seq_end ?_
        refine hK102 _ _ ?_
        refine wp_seq_k (fun K111 hK111 => ?_)
        refine wp_seq_k (fun K112 hK112 => ?_)
        refine wp_region_lit ?_
        refine seq_do hA rfl rfl rfl (does_move rfl) ?_
        intro a hA
        refine seq_do (v := .bool false) hA rfl rfl rfl (does_bin rfl rfl (fun w => by kernel_rfl)) ?_
        intro a hA
        refine seq_end ?_
        refine hK112 _ _ ?_
        refine wp_cond_false (hA.ev rfl) ?_
        refine wp_skip ?_
        refine hK111 _ _ ?_
        refine wp_region_lit ?_
        refine seq_do (v := .agg #[.bool (rb (pwR u v (i + 1 + 1)).1.num), .slice p104_1 ((words (pwR u v (i + 1 + 1)).1.num.natAbs).length) p104_c1, .slice p104_2 ((words (pwR u v (i + 1 + 1)).1.den).length) p104_c2, .bool (rb (pwR u v (i + 1 + 1)).2.num), .slice p104_3 ((words (pwR u v (i + 1 + 1)).2.num.natAbs).length) p104_c3, .slice p104_4 ((words (pwR u v (i + 1 + 1)).2.den).length) p104_c4]) hA rfl rfl rfl (does_loadS hS ExU_isS_26 rfl 0 rfl (cs := [.bool (rb (pwR u v (i + 1 + 1)).1.num), .slice p104_1 ((words (pwR u v (i + 1 + 1)).1.num.natAbs).length) p104_c1, .slice p104_2 ((words (pwR u v (i + 1 + 1)).1.den).length) p104_c2, .bool (rb (pwR u v (i + 1 + 1)).2.num), .slice p104_3 ((words (pwR u v (i + 1 + 1)).2.num.natAbs).length) p104_c3, .slice p104_4 ((words (pwR u v (i + 1 + 1)).2.den).length) p104_c4]) rfl rfl) ?_
        intro a hA
        refine seq_call hA rfl rfl rfl (enters_func  rfl rfl (fun w => by kernel_rfl)) (zspread_any (u := (pwR u v (i + 1 + 1)).1) (v := (pwR u v (i + 1 + 1)).2) (show Nm _ (Q6.rat (pwR u v (i + 1 + 1)).1 (pwR u v (i + 1 + 1)).2) p104_1 p104_c1 p104_2 p104_c2 p104_3 p104_c3 p104_4 p104_c4 from ⟨⟨(hS.rd 3 rfl), hn105.s1.nil, hn105.s1.cap⟩, ⟨(hS.rd 2 rfl), hn105.s2.nil, hn105.s2.cap⟩, ⟨(hS.rd 1 rfl), hn105.s3.nil, hn105.s3.cap⟩, ⟨(hS.rd 0 rfl), hn105.s4.nil, hn105.s4.cap⟩⟩) (fitB_ok hb103).1 (fitB_ok hb103).2) ?_
        rintro _ w118 ⟨p113_1, p113_c1, p113_2, p113_c2, p113_3, p113_c3, rfl, hs114, hs115, hs116, hb117⟩
        replace hS := hS.call hb117
        replace hS := hS.addR hs114.rd
        replace hS := hS.addR hs115.rd
        replace hS := hS.addR hs116.rd
        refine ⟨_, rfl, ?_⟩
        intro a hA
        refine seq_store (us := [.bool ((rb (spX (pwR u v (i + 1 + 1)).1 (pwR u v (i + 1 + 1)).2))), .slice p113_1 ((words (spX (pwR u v (i + 1 + 1)).1 (pwR u v (i + 1 + 1)).2).natAbs).length) p113_c1, .bool ((rb (spY (pwR u v (i + 1 + 1)).1 (pwR u v (i + 1 + 1)).2))), .slice p113_2 ((words (spY (pwR u v (i + 1 + 1)).1 (pwR u v (i + 1 + 1)).2).natAbs).length) p113_c2, .slice p113_3 ((words (spD (pwR u v (i + 1 + 1)).1 (pwR u v (i + 1 + 1)).2)).length) p113_c3]) hA hS rfl rfl (sets_store (cs := [.bool ((rb (spX (pwR u v (i + 1 + 1)).1 (pwR u v (i + 1 + 1)).2))), .slice p113_1 ((words (spX (pwR u v (i + 1 + 1)).1 (pwR u v (i + 1 + 1)).2).natAbs).length) p113_c1, .bool ((rb (spY (pwR u v (i + 1 + 1)).1 (pwR u v (i + 1 + 1)).2))), .slice p113_2 ((words (spY (pwR u v (i + 1 + 1)).1 (pwR u v (i + 1 + 1)).2).natAbs).length) p113_c2, .slice p113_3 ((words (spD (pwR u v (i + 1 + 1)).1 (pwR u v (i + 1 + 1)).2)).length) p113_c3]) rfl rfl rfl (by kernel_rfl) hS 1 rfl rfl rfl) 1 rfl rfl rfl rfl ?_
        intro w119 hS
        refine seq_end ?_
        refine hK18 _ _ ?_
        refine wp_region_lit ?_
        refine seq_do (v := .int .i64 (((i + 1 : Nat) : Int))) hA rfl rfl rfl (does_bin rfl rfl (fun w => (bin_add (i64In (by omega) (by omega)) w).trans (by rw [show (((i : Nat) : Int) + 1 : Int) = ((i + 1 : Nat) : Int) from by omega]))) ?_
        intro a hA
        refine seq_do hA rfl rfl rfl (does_move rfl) ?_
        intro a hA
        refine seq_end ?_
        refine hK13 _ _ _ (by omega) ⟨i + 1, spX (pwR u v (i + 1 + 1)).1 (pwR u v (i + 1 + 1)).2, spY (pwR u v (i + 1 + 1)).1 (pwR u v (i + 1 + 1)).2, spD (pwR u v (i + 1 + 1)).1 (pwR u v (i + 1 + 1)).2, p113_1, p113_c1, p113_2, p113_c2, p113_3, p113_c3, rfl, ⟨by omega, pwB_step hB9 (fitB_ok hb103).1 (fitB_ok hb103).2, ⟨spD_ne _ _, spX_mk _ _, spY_mk _ _, spX_len (fitB_ok hb103).1 (fitB_ok hb103).2, spY_len (fitB_ok hb103).1 (fitB_ok hb103).2, spD_len (fitB_ok hb103).1 (fitB_ok hb103).2⟩, ⟨hs114.nil, hs114.cap⟩, ⟨hs115.nil, hs115.cap⟩, ⟨hs116.nil, hs116.cap⟩⟩, hA.keep _ ⟨rfl, rfl, rfl, rfl, rfl, rfl, rfl, rfl, rfl, trivial⟩, ((hS.pickR [(p113_1, words (spX (pwR u v (i + 1 + 1)).1 (pwR u v (i + 1 + 1)).2).natAbs), (p113_2, words (spY (pwR u v (i + 1 + 1)).1 (pwR u v (i + 1 + 1)).2).natAbs), (p113_3, words (spD (pwR u v (i + 1 + 1)).1 (pwR u v (i + 1 + 1)).2)), (a3, words d), (a2, words y.natAbs), (a1, words x.natAbs)] ⟨⟨2, rfl⟩, ⟨⟨1, rfl⟩, ⟨⟨0, rfl⟩, ⟨⟨13, rfl⟩, ⟨⟨14, rfl⟩, ⟨⟨15, rfl⟩, trivial⟩⟩⟩⟩⟩⟩).subL _ (.cons _ (.cons_cons _ (.cons_cons _ (.cons_cons _ .slnil)))))⟩
      · refine seq_call hA rfl rfl rfl (enters_func  rfl rfl (fun w => by kernel_rfl)) (zsettle_as ⟨(hS.rd 2 rfl), hs21.nil, hs21.cap⟩ ⟨(hS.rd 1 rfl), hs22.nil, hs22.cap⟩ ⟨(hS.rd 0 rfl), hs23.nil, hs23.cap⟩ ((set_pw (Nat.mul_ne_zero hD9 hd) hS9.1 hS9.2).trans (ratS_no (fitB_no hb103))) (by omega) (by omega) (by omega) (Nat.mul_ne_zero hD9 hd)) ?_
        rintro _ w123 ⟨p120_1, p120_c1, p120_2, p120_c2, p120_3, p120_c3, p120_4, p120_c4, rfl, hn121, hb122⟩
        replace hS := hS.call hb122
        replace hS := hS.addR hn121.s1.rd
        replace hS := hS.addR hn121.s2.rd
        replace hS := hS.addR hn121.s3.rd
        replace hS := hS.addR hn121.s4.rd
        refine ⟨_, rfl, ?_⟩
        intro a hA
        refine seq_do hA rfl rfl rfl (does_move rfl) ?_
        intro a hA
        refine seq_do (v := .agg #[.bool false, .slice p120_1 0 p120_c1, .slice p120_2 0 p120_c2, .bool false, .slice p120_3 0 p120_c3, .slice p120_4 0 p120_c4]) hA rfl rfl rfl (does_extract (vs := [.agg #[.bool false, .slice p120_1 0 p120_c1, .slice p120_2 0 p120_c2, .bool false, .slice p120_3 0 p120_c3, .slice p120_4 0 p120_c4], .int .i64 4]) rfl rfl) ?_
        intro a hA
        refine seq_do (v := .int .i64 4) hA rfl rfl rfl (does_extract (vs := [.agg #[.bool false, .slice p120_1 0 p120_c1, .slice p120_2 0 p120_c2, .bool false, .slice p120_3 0 p120_c3, .slice p120_4 0 p120_c4], .int .i64 4]) rfl rfl) ?_
        intro a hA
        refine seq_new (vs := [.bool false, .slice none 0 0, .slice none 0 0, .bool false, .slice none 0 0, .slice none 0 0]) (t := 26) hA hS rfl rfl rfl (fun g => .pointer (some ⟨g, 0, none⟩)) (does_alloc (z := .agg #[.bool false, .slice none 0 0, .slice none 0 0, .bool false, .slice none 0 0, .slice none 0 0]) (by kernel_rfl) rfl) rfl ?_
        intro g124 w125 hS a hA
        refine seq_store (us := [.bool false, .slice p120_1 0 p120_c1, .slice p120_2 0 p120_c2, .bool false, .slice p120_3 0 p120_c3, .slice p120_4 0 p120_c4]) hA hS rfl rfl (sets_store (cs := [.bool false, .slice p120_1 0 p120_c1, .slice p120_2 0 p120_c2, .bool false, .slice p120_3 0 p120_c3, .slice p120_4 0 p120_c4]) rfl rfl rfl (by kernel_rfl) hS 0 rfl rfl rfl) 0 rfl rfl rfl rfl ?_
        intro w126 hS
        refine seq_do hA rfl rfl rfl (does_assign rfl) ?_
        intro a hA
        refine seq_end ?_
        refine hK102 _ _ ?_
        refine wp_seq_k (fun K127 hK127 => ?_)
        refine wp_seq_k (fun K128 hK128 => ?_)
        refine wp_region_lit ?_
        refine seq_do hA rfl rfl rfl (does_move rfl) ?_
        intro a hA
        refine seq_do (v := .bool true) hA rfl rfl rfl (does_bin rfl rfl (fun w => by kernel_rfl)) ?_
        intro a hA
        refine seq_end ?_
        refine hK128 _ _ ?_
        refine wp_cond_true (hA.ev rfl) ?_
        refine wp_seq_k (fun K129 hK129 => ?_)
        refine wp_region_lit ?_
        refine seq_do (v := .agg #[.bool false, .slice none 0 0, .bool false, .slice none 0 0, .slice none 0 0]) hA rfl rfl rfl (does_build rfl (fun w => by kernel_rfl)) ?_
        intro a hA
        refine seq_do hA rfl rfl rfl (does_move rfl) ?_
        intro a hA
        refine seq_store (us := [.bool false, .slice none 0 0, .bool false, .slice none 0 0, .slice none 0 0]) hA hS rfl rfl (sets_store (cs := [.bool false, .slice none 0 0, .bool false, .slice none 0 0, .slice none 0 0]) rfl rfl rfl (by kernel_rfl) hS 2 rfl rfl rfl) 2 rfl rfl rfl rfl ?_
        intro w130 hS
        refine seq_do hA rfl rfl rfl (does_assign rfl) ?_
        intro a hA
        refine seq_end ?_
        refine hK129 _ _ ?_
        refine wp_ret ?_
        refine hret _ _ ?_
        refine ends (v := .tuple #[.agg #[.bool false, .slice none 0 0, .bool false, .slice none 0 0, .slice none 0 0], .int .i64 4]) hA rfl (.cons (res_cell hS ExU_isS_48 rfl 2 rfl (cs := [.bool false, .slice none 0 0, .bool false, .slice none 0 0, .slice none 0 0]) rfl rfl) (.cons (res_tmp rfl) .nil)) rfl ?_
        exact .inr ⟨pwB_stop (k := i + 1 + 1) (by omega) (fitB_no hb103), rfl, hS.bel⟩
  · have hb16' := of_decide_eq_false hb16
    refine seq_do (v := .bool false) hA rfl rfl rfl (does_bin rfl rfl (fun w => (bin_lss w).trans (by rw [hb16]))) ?_
    intro a hA
    refine seq_end ?_
    refine hK15 _ _ ?_
    refine wp_seq_k (fun K131 hK131 => ?_)
    refine wp_cond_false (hA.ev rfl) ?_
    refine wp_exit ?_
    refine hK10 _ _ ?_
    refine wp_seq_k (fun K132 hK132 => ?_)
    refine wp_region_lit ?_
    refine seq_do (v := .agg #[.bool ((rb X)), .slice po1 ((words X.natAbs).length) poc1, .bool ((rb Y)), .slice po2 ((words Y.natAbs).length) poc2, .slice po3 ((words D).length) poc3]) hA rfl rfl rfl (does_loadS hS ExU_isS_48 rfl 0 rfl (cs := [.bool ((rb X)), .slice po1 ((words X.natAbs).length) poc1, .bool ((rb Y)), .slice po2 ((words Y.natAbs).length) poc2, .slice po3 ((words D).length) poc3]) rfl rfl) ?_
    intro a hA
    refine seq_store (us := [.bool ((rb X)), .slice po1 ((words X.natAbs).length) poc1, .bool ((rb Y)), .slice po2 ((words Y.natAbs).length) poc2, .slice po3 ((words D).length) poc3]) hA hS rfl rfl (sets_store (cs := [.bool ((rb X)), .slice po1 ((words X.natAbs).length) poc1, .bool ((rb Y)), .slice po2 ((words Y.natAbs).length) poc2, .slice po3 ((words D).length) poc3]) rfl rfl rfl (by kernel_rfl) hS 1 rfl rfl rfl) 1 rfl rfl rfl rfl ?_
    intro w133 hS
    refine seq_do hA rfl rfl rfl (does_assign rfl) ?_
    intro a hA
    refine seq_end ?_
    refine hK132 _ _ ?_
    refine wp_ret ?_
    refine hret _ _ ?_
    refine ends (v := .tuple #[.agg #[.bool ((rb X)), .slice po1 ((words X.natAbs).length) poc1, .bool ((rb Y)), .slice po2 ((words Y.natAbs).length) poc2, .slice po3 ((words D).length) poc3], .int .i64 0]) hA rfl (.cons (res_cell hS ExU_isS_48 rfl 1 rfl (cs := [.bool ((rb X)), .slice po1 ((words X.natAbs).length) poc1, .bool ((rb Y)), .slice po2 ((words Y.natAbs).length) poc2, .slice po3 ((words D).length) poc3]) rfl rfl) (.cons (res_tmp rfl) .nil)) rfl ?_
    obtain rfl : n = i + 1 := by omega
    exact .inl ⟨hB9, X, Y, D, ⟨hD9, hX9, hY9, lX9, lY9, lD9⟩, po1, poc1, po2, poc2, po3, poc3, rfl, ⟨(hS.rd 0 rfl), kn1.1, kn1.2⟩, ⟨(hS.rd 1 rfl), kn2.1, kn2.2⟩, ⟨(hS.rd 2 rfl), kn3.1, kn3.2⟩, hS.bel⟩
end Go.Proofs.Ytmibkfihcihphaa
namespace Go.Proofs.Ytmibkfihcihphaa
open Go.RowKit
set_option linter.unusedVariables false
set_option linter.unusedSimpArgs false
set_option maxRecDepth 100000
theorem ExV_isS_26 : IsS Try.prog 26 6 := ⟨⟨_, Try.underlying26⟩, by kernel_rfl⟩
theorem ExV_isS_48 : IsS Try.prog 48 5 := ⟨⟨_, Try.underlying48⟩, by kernel_rfl⟩
theorem zpowerT_any {w : World} {x y : Int} {d n : Nat} {a1 a2 a3 : Option Addr} {ac1 ac2 ac3 : Nat} (ha1 : Sc w a1 ac1 (words x.natAbs)) (ha2 : Sc w a2 ac2 (words y.natAbs)) (ha3 : Sc w a3 ac3 (words d)) (l1 : (words x.natAbs).length ≤ 1024) (l2 : (words y.natAbs).length ≤ 1024) (l3 : (words d).length ≤ 1024) (hd : d ≠ 0) {u v : Rat} (hu : mkRat x d = u) (hv : mkRat y d = v) (fu : fitR u) (fv : fitR v) (hn1 : 1 ≤ n) (hn2 : n ≤ 1024) (hB : pwB u v n = true) : Calls Try.prog 42 #[.agg #[.bool (rb x), .slice a1 (words x.natAbs).length ac1, .bool (rb y), .slice a2 (words y.natAbs).length ac2, .slice a3 (words d).length ac3], .int .i64 ((n : Nat) : Int)] w (fun e w' => ∃ X Y D, PwOut u v n X Y D ∧ ∃ o1 c1 o2 c2 o3 c3, e = .returned (.tuple #[.agg #[.bool (rb X), .slice o1 (words X.natAbs).length c1, .bool (rb Y), .slice o2 (words Y.natAbs).length c2, .slice o3 (words D).length c3], .int .i64 0]) ∧ Sc w' o1 c1 (words X.natAbs) ∧ Sc w' o2 c2 (words Y.natAbs) ∧ Sc w' o3 c3 (words D) ∧ Below w.heap.size w w') :=
  (zpower_any ha1 ha2 ha3 l1 l2 l3 hd hu hv fu fv hn1 hn2).mono fun e w' h => h.elim (fun k => k.2) (fun k => absurd (hB.symm.trans k.1) (by decide))
theorem zpowerF_any {w : World} {x y : Int} {d n : Nat} {a1 a2 a3 : Option Addr} {ac1 ac2 ac3 : Nat} (ha1 : Sc w a1 ac1 (words x.natAbs)) (ha2 : Sc w a2 ac2 (words y.natAbs)) (ha3 : Sc w a3 ac3 (words d)) (l1 : (words x.natAbs).length ≤ 1024) (l2 : (words y.natAbs).length ≤ 1024) (l3 : (words d).length ≤ 1024) (hd : d ≠ 0) {u v : Rat} (hu : mkRat x d = u) (hv : mkRat y d = v) (fu : fitR u) (fv : fitR v) (hn1 : 1 ≤ n) (hn2 : n ≤ 1024) (hB : pwB u v n = false) : Calls Try.prog 42 #[.agg #[.bool (rb x), .slice a1 (words x.natAbs).length ac1, .bool (rb y), .slice a2 (words y.natAbs).length ac2, .slice a3 (words d).length ac3], .int .i64 ((n : Nat) : Int)] w (fun e w' => e = .returned (.tuple #[.agg #[.bool false, .slice none 0 0, .bool false, .slice none 0 0, .slice none 0 0], .int .i64 4]) ∧ Below w.heap.size w w') :=
  (zpower_any ha1 ha2 ha3 l1 l2 l3 hd hu hv fu fv hn1 hn2).mono fun e w' h => h.elim (fun k => absurd (hB.symm.trans k.1) (by decide)) (fun k => k.2)
theorem exptE_any {w : World} {q : Q6} {a1 a2 a3 a4 : Option Addr} {ac1 ac2 ac3 ac4 : Nat} (ha : Nm w q a1 ac1 a2 ac2 a3 ac3 a4 ac4) (hl : LenQ q) {n : Int} (hs : soundQ q = false) : Calls Try.prog 16 #[numV q a1 ac1 a2 ac2 a3 ac3 a4 ac4, .int .i64 n] w (AnsN w (exptQ q n)) := by
  have hS : St w w [] [(a4, q.q2), (a3, q.t2), (a2, q.q1), (a1, q.t1)] [] := ((((St.start w).addR ha.s1.rd).addR ha.s2.rd).addR ha.s3.rd).addR ha.s4.rd
  refine walk_of (l := [(0, .agg #[.bool q.b1, .slice a1 q.t1.length ac1, .slice a2 q.q1.length ac2, .bool q.b2, .slice a3 q.t2.length ac3, .slice a4 q.q2.length ac4]), (1, .int .i64 n)]) Try.func16 rfl Try.ntmps16 rfl rfl ?_
  intro Q hret hnorm hP a hA
  refine wp_seq_k (fun K1 hK1 => ?_)
  refine wp_region_lit ?_
  refine seq_new (vs := [.bool q.b1, .slice a1 q.t1.length ac1, .slice a2 q.q1.length ac2, .bool q.b2, .slice a3 q.t2.length ac3, .slice a4 q.q2.length ac4]) (t := 26) hA hS rfl rfl rfl (fun g => .pointer (some ⟨g, 0, none⟩)) (does_box rfl rfl) rfl ?_
  intro g2 w3 hS a hA
  refine seq_new (vs := [.bool false, .slice none 0 0, .slice none 0 0, .bool false, .slice none 0 0, .slice none 0 0]) (t := 26) hA hS rfl rfl rfl (fun g => .pointer (some ⟨g, 0, none⟩)) (does_alloc (z := .agg #[.bool false, .slice none 0 0, .slice none 0 0, .bool false, .slice none 0 0, .slice none 0 0]) (by kernel_rfl) rfl) rfl ?_
  intro g4 w5 hS a hA
  refine seq_do hA rfl rfl rfl (does_assign rfl) ?_
  intro a hA
  refine seq_end ?_
  refine hK1 _ _ ?_
  refine wp_seq_k (fun K6 hK6 => ?_)
  refine wp_block ?_
  refine wp_seq_k (fun K7 hK7 => ?_)
  refine wp_region_lit ?_
  refine seq_do (v := .agg #[.bool q.b1, .slice a1 q.t1.length ac1, .slice a2 q.q1.length ac2, .bool q.b2, .slice a3 q.t2.length ac3, .slice a4 q.q2.length ac4]) hA rfl rfl rfl (does_loadS hS ExV_isS_26 rfl 1 rfl (cs := [.bool q.b1, .slice a1 q.t1.length ac1, .slice a2 q.q1.length ac2, .bool q.b2, .slice a3 q.t2.length ac3, .slice a4 q.q2.length ac4]) rfl rfl) ?_
  intro a hA
  refine seq_call hA rfl rfl rfl (enters_func  rfl rfl (fun w => by kernel_rfl)) (soundQ_any (show Nm _ _ a1 ac1 a2 ac2 a3 ac3 a4 ac4 from ⟨⟨(hS.rd 3 rfl), ha.s1.nil, ha.s1.cap⟩, ⟨(hS.rd 2 rfl), ha.s2.nil, ha.s2.cap⟩, ⟨(hS.rd 1 rfl), ha.s3.nil, ha.s3.cap⟩, ⟨(hS.rd 0 rfl), ha.s4.nil, ha.s4.cap⟩⟩) hl hs) ?_
  rintro _ w9 ⟨rfl, hb8⟩
  replace hS := hS.call hb8
  refine ⟨_, rfl, ?_⟩
  intro a hA
  refine seq_do (v := .bool true) hA rfl rfl rfl (does_un rfl un_not) ?_
  intro a hA
  refine seq_do hA rfl rfl rfl (does_assign rfl) ?_
  intro a hA
  refine seq_end ?_
  refine hK7 _ _ ?_
  refine wp_cond_true (hA.ev rfl) ?_
  refine wp_seq_k (fun K10 hK10 => ?_)
  refine wp_region_lit ?_
  refine seq_do (v := .agg #[.bool false, .slice none 0 0, .slice none 0 0, .bool false, .slice none 0 0, .slice none 0 0]) hA rfl rfl rfl (does_build rfl (fun w => by kernel_rfl)) ?_
  intro a hA
  refine seq_store (us := [.bool false, .slice none 0 0, .slice none 0 0, .bool false, .slice none 0 0, .slice none 0 0]) hA hS rfl rfl (sets_store (cs := [.bool false, .slice none 0 0, .slice none 0 0, .bool false, .slice none 0 0, .slice none 0 0]) rfl rfl rfl (by kernel_rfl) hS 0 rfl rfl rfl) 0 rfl rfl rfl rfl ?_
  intro w11 hS
  refine seq_do hA rfl rfl rfl (does_assign rfl) ?_
  intro a hA
  refine seq_end ?_
  refine hK10 _ _ ?_
  refine wp_ret ?_
  refine hret _ _ ?_
  refine ends (v := .tuple #[.agg #[.bool false, .slice none 0 0, .slice none 0 0, .bool false, .slice none 0 0, .slice none 0 0], .int .i64 2]) hA rfl (.cons (res_cell hS ExV_isS_26 rfl 0 rfl (cs := [.bool false, .slice none 0 0, .slice none 0 0, .bool false, .slice none 0 0, .slice none 0 0]) rfl rfl) (.cons (res_tmp rfl) .nil)) rfl ?_
  rw [exptQ_bad hs]
  exact ⟨none, 0, none, 0, none, 0, none, 0, rfl, ⟨(Sc.none _), (Sc.none _), (Sc.none _), (Sc.none _)⟩, hS.bel⟩
theorem exptA1_any {w : World} {u v : Rat} {a1 a2 a3 a4 : Option Addr} {ac1 ac2 ac3 ac4 : Nat} (ha : Nm w (Q6.rat u v) a1 ac1 a2 ac2 a3 ac3 a4 ac4) (hu : fitR u) (hv : fitR v) {n : Int} (hn : n < -1024) : Calls Try.prog 16 #[numV (Q6.rat u v) a1 ac1 a2 ac2 a3 ac3 a4 ac4, .int .i64 n] w (AnsN w (exptQ (Q6.rat u v) n)) := by
  have hS : St w w [] [(a4, words v.den), (a3, words v.num.natAbs), (a2, words u.den), (a1, words u.num.natAbs)] [] := ((((St.start w).addR ha.s1.rd).addR ha.s2.rd).addR ha.s3.rd).addR ha.s4.rd
  refine walk_of (l := [(0, .agg #[.bool (rb u.num), .slice a1 ((words u.num.natAbs).length) ac1, .slice a2 ((words u.den).length) ac2, .bool (rb v.num), .slice a3 ((words v.num.natAbs).length) ac3, .slice a4 ((words v.den).length) ac4]), (1, .int .i64 n)]) Try.func16 rfl Try.ntmps16 rfl rfl ?_
  intro Q hret hnorm hP a hA
  refine wp_seq_k (fun K1 hK1 => ?_)
  refine wp_region_lit ?_
  refine seq_new (vs := [.bool (rb u.num), .slice a1 ((words u.num.natAbs).length) ac1, .slice a2 ((words u.den).length) ac2, .bool (rb v.num), .slice a3 ((words v.num.natAbs).length) ac3, .slice a4 ((words v.den).length) ac4]) (t := 26) hA hS rfl rfl rfl (fun g => .pointer (some ⟨g, 0, none⟩)) (does_box rfl rfl) rfl ?_
  intro g2 w3 hS a hA
  refine seq_new (vs := [.bool false, .slice none 0 0, .slice none 0 0, .bool false, .slice none 0 0, .slice none 0 0]) (t := 26) hA hS rfl rfl rfl (fun g => .pointer (some ⟨g, 0, none⟩)) (does_alloc (z := .agg #[.bool false, .slice none 0 0, .slice none 0 0, .bool false, .slice none 0 0, .slice none 0 0]) (by kernel_rfl) rfl) rfl ?_
  intro g4 w5 hS a hA
  refine seq_do hA rfl rfl rfl (does_assign rfl) ?_
  intro a hA
  refine seq_end ?_
  refine hK1 _ _ ?_
  refine wp_seq_k (fun K6 hK6 => ?_)
  refine wp_block ?_
  refine wp_seq_k (fun K7 hK7 => ?_)
  refine wp_region_lit ?_
  refine seq_do (v := .agg #[.bool (rb u.num), .slice a1 ((words u.num.natAbs).length) ac1, .slice a2 ((words u.den).length) ac2, .bool (rb v.num), .slice a3 ((words v.num.natAbs).length) ac3, .slice a4 ((words v.den).length) ac4]) hA rfl rfl rfl (does_loadS hS ExV_isS_26 rfl 1 rfl (cs := [.bool (rb u.num), .slice a1 ((words u.num.natAbs).length) ac1, .slice a2 ((words u.den).length) ac2, .bool (rb v.num), .slice a3 ((words v.num.natAbs).length) ac3, .slice a4 ((words v.den).length) ac4]) rfl rfl) ?_
  intro a hA
  refine seq_call hA rfl rfl rfl (enters_func  rfl rfl (fun w => by kernel_rfl)) (soundQ_any (show Nm _ (Q6.rat u v) a1 ac1 a2 ac2 a3 ac3 a4 ac4 from ⟨⟨(hS.rd 3 rfl), ha.s1.nil, ha.s1.cap⟩, ⟨(hS.rd 2 rfl), ha.s2.nil, ha.s2.cap⟩, ⟨(hS.rd 1 rfl), ha.s3.nil, ha.s3.cap⟩, ⟨(hS.rd 0 rfl), ha.s4.nil, ha.s4.cap⟩⟩) (lenQ_rat hu hv) (soundQ_rat hu hv)) ?_
  rintro _ w9 ⟨rfl, hb8⟩
  replace hS := hS.call hb8
  refine ⟨_, rfl, ?_⟩
  intro a hA
  refine seq_do (v := .bool false) hA rfl rfl rfl (does_un rfl un_not) ?_
  intro a hA
  refine seq_do hA rfl rfl rfl (does_assign rfl) ?_
  intro a hA
  refine seq_end ?_
  refine hK7 _ _ ?_
  refine wp_cond_false (hA.ev rfl) ?_
  refine wp_seq_k (fun K10 hK10 => ?_)
  refine wp_region_lit ?_
  refine seq_do hA rfl rfl rfl (does_move rfl) ?_
  intro a hA
  refine seq_do (v := .bool true) hA rfl rfl rfl (does_bin rfl rfl (fun w => (bin_lss w).trans (by rw [show (decide (n < -1024)) = true from (decide_eq_true (by omega))]))) ?_
  intro a hA
  refine seq_do hA rfl rfl rfl (does_move rfl) ?_
  intro a hA
  refine seq_skip hA rfl rfl rfl ?_
  intro a hA
  refine seq_skip hA rfl rfl rfl ?_
  intro a hA
  refine seq_do (v := .bool true) hA rfl rfl rfl (does_pick rfl rfl rfl rfl) ?_
  intro a hA
  refine seq_do hA rfl rfl rfl (does_assign rfl) ?_
  intro a hA
  refine seq_end ?_
  refine hK10 _ _ ?_
  refine wp_cond_true (hA.ev rfl) ?_
  refine wp_seq_k (fun K11 hK11 => ?_)
  refine wp_region_lit ?_
  refine seq_do (v := .agg #[.bool false, .slice none 0 0, .slice none 0 0, .bool false, .slice none 0 0, .slice none 0 0]) hA rfl rfl rfl (does_build rfl (fun w => by kernel_rfl)) ?_
  intro a hA
  refine seq_store (us := [.bool false, .slice none 0 0, .slice none 0 0, .bool false, .slice none 0 0, .slice none 0 0]) hA hS rfl rfl (sets_store (cs := [.bool false, .slice none 0 0, .slice none 0 0, .bool false, .slice none 0 0, .slice none 0 0]) rfl rfl rfl (by kernel_rfl) hS 0 rfl rfl rfl) 0 rfl rfl rfl rfl ?_
  intro w12 hS
  refine seq_do hA rfl rfl rfl (does_assign rfl) ?_
  intro a hA
  refine seq_end ?_
  refine hK11 _ _ ?_
  refine wp_ret ?_
  refine hret _ _ ?_
  refine ends (v := .tuple #[.agg #[.bool false, .slice none 0 0, .slice none 0 0, .bool false, .slice none 0 0, .slice none 0 0], .int .i64 1]) hA rfl (.cons (res_cell hS ExV_isS_26 rfl 0 rfl (cs := [.bool false, .slice none 0 0, .slice none 0 0, .bool false, .slice none 0 0, .slice none 0 0]) rfl rfl) (.cons (res_tmp rfl) .nil)) rfl ?_
  rw [exptQ_arg hu hv (.inl hn)]
  exact ⟨none, 0, none, 0, none, 0, none, 0, rfl, ⟨(Sc.none _), (Sc.none _), (Sc.none _), (Sc.none _)⟩, hS.bel⟩
theorem exptA2_any {w : World} {u v : Rat} {a1 a2 a3 a4 : Option Addr} {ac1 ac2 ac3 ac4 : Nat} (ha : Nm w (Q6.rat u v) a1 ac1 a2 ac2 a3 ac3 a4 ac4) (hu : fitR u) (hv : fitR v) {n : Int} (hn : 1024 < n) : Calls Try.prog 16 #[numV (Q6.rat u v) a1 ac1 a2 ac2 a3 ac3 a4 ac4, .int .i64 n] w (AnsN w (exptQ (Q6.rat u v) n)) := by
  have hS : St w w [] [(a4, words v.den), (a3, words v.num.natAbs), (a2, words u.den), (a1, words u.num.natAbs)] [] := ((((St.start w).addR ha.s1.rd).addR ha.s2.rd).addR ha.s3.rd).addR ha.s4.rd
  refine walk_of (l := [(0, .agg #[.bool (rb u.num), .slice a1 ((words u.num.natAbs).length) ac1, .slice a2 ((words u.den).length) ac2, .bool (rb v.num), .slice a3 ((words v.num.natAbs).length) ac3, .slice a4 ((words v.den).length) ac4]), (1, .int .i64 n)]) Try.func16 rfl Try.ntmps16 rfl rfl ?_
  intro Q hret hnorm hP a hA
  refine wp_seq_k (fun K1 hK1 => ?_)
  refine wp_region_lit ?_
  refine seq_new (vs := [.bool (rb u.num), .slice a1 ((words u.num.natAbs).length) ac1, .slice a2 ((words u.den).length) ac2, .bool (rb v.num), .slice a3 ((words v.num.natAbs).length) ac3, .slice a4 ((words v.den).length) ac4]) (t := 26) hA hS rfl rfl rfl (fun g => .pointer (some ⟨g, 0, none⟩)) (does_box rfl rfl) rfl ?_
  intro g2 w3 hS a hA
  refine seq_new (vs := [.bool false, .slice none 0 0, .slice none 0 0, .bool false, .slice none 0 0, .slice none 0 0]) (t := 26) hA hS rfl rfl rfl (fun g => .pointer (some ⟨g, 0, none⟩)) (does_alloc (z := .agg #[.bool false, .slice none 0 0, .slice none 0 0, .bool false, .slice none 0 0, .slice none 0 0]) (by kernel_rfl) rfl) rfl ?_
  intro g4 w5 hS a hA
  refine seq_do hA rfl rfl rfl (does_assign rfl) ?_
  intro a hA
  refine seq_end ?_
  refine hK1 _ _ ?_
  refine wp_seq_k (fun K6 hK6 => ?_)
  refine wp_block ?_
  refine wp_seq_k (fun K7 hK7 => ?_)
  refine wp_region_lit ?_
  refine seq_do (v := .agg #[.bool (rb u.num), .slice a1 ((words u.num.natAbs).length) ac1, .slice a2 ((words u.den).length) ac2, .bool (rb v.num), .slice a3 ((words v.num.natAbs).length) ac3, .slice a4 ((words v.den).length) ac4]) hA rfl rfl rfl (does_loadS hS ExV_isS_26 rfl 1 rfl (cs := [.bool (rb u.num), .slice a1 ((words u.num.natAbs).length) ac1, .slice a2 ((words u.den).length) ac2, .bool (rb v.num), .slice a3 ((words v.num.natAbs).length) ac3, .slice a4 ((words v.den).length) ac4]) rfl rfl) ?_
  intro a hA
  refine seq_call hA rfl rfl rfl (enters_func  rfl rfl (fun w => by kernel_rfl)) (soundQ_any (show Nm _ (Q6.rat u v) a1 ac1 a2 ac2 a3 ac3 a4 ac4 from ⟨⟨(hS.rd 3 rfl), ha.s1.nil, ha.s1.cap⟩, ⟨(hS.rd 2 rfl), ha.s2.nil, ha.s2.cap⟩, ⟨(hS.rd 1 rfl), ha.s3.nil, ha.s3.cap⟩, ⟨(hS.rd 0 rfl), ha.s4.nil, ha.s4.cap⟩⟩) (lenQ_rat hu hv) (soundQ_rat hu hv)) ?_
  rintro _ w9 ⟨rfl, hb8⟩
  replace hS := hS.call hb8
  refine ⟨_, rfl, ?_⟩
  intro a hA
  refine seq_do (v := .bool false) hA rfl rfl rfl (does_un rfl un_not) ?_
  intro a hA
  refine seq_do hA rfl rfl rfl (does_assign rfl) ?_
  intro a hA
  refine seq_end ?_
  refine hK7 _ _ ?_
  refine wp_cond_false (hA.ev rfl) ?_
  refine wp_seq_k (fun K10 hK10 => ?_)
  refine wp_region_lit ?_
  refine seq_do hA rfl rfl rfl (does_move rfl) ?_
  intro a hA
  refine seq_do (v := .bool false) hA rfl rfl rfl (does_bin rfl rfl (fun w => (bin_lss w).trans (by rw [show (decide (n < -1024)) = false from (decide_eq_false (by omega))]))) ?_
  intro a hA
  refine seq_do hA rfl rfl rfl (does_move rfl) ?_
  intro a hA
  refine seq_do hA rfl rfl rfl (does_move rfl) ?_
  intro a hA
  refine seq_do (v := .bool true) hA rfl rfl rfl (does_bin rfl rfl (fun w => (bin_gtr w).trans (by rw [show (decide (1024 < n)) = true from (decide_eq_true (by omega))]))) ?_
  intro a hA
  refine seq_do (v := .bool true) hA rfl rfl rfl (does_pick rfl rfl rfl rfl) ?_
  intro a hA
  refine seq_do hA rfl rfl rfl (does_assign rfl) ?_
  intro a hA
  refine seq_end ?_
  refine hK10 _ _ ?_
  refine wp_cond_true (hA.ev rfl) ?_
  refine wp_seq_k (fun K11 hK11 => ?_)
  refine wp_region_lit ?_
  refine seq_do (v := .agg #[.bool false, .slice none 0 0, .slice none 0 0, .bool false, .slice none 0 0, .slice none 0 0]) hA rfl rfl rfl (does_build rfl (fun w => by kernel_rfl)) ?_
  intro a hA
  refine seq_store (us := [.bool false, .slice none 0 0, .slice none 0 0, .bool false, .slice none 0 0, .slice none 0 0]) hA hS rfl rfl (sets_store (cs := [.bool false, .slice none 0 0, .slice none 0 0, .bool false, .slice none 0 0, .slice none 0 0]) rfl rfl rfl (by kernel_rfl) hS 0 rfl rfl rfl) 0 rfl rfl rfl rfl ?_
  intro w12 hS
  refine seq_do hA rfl rfl rfl (does_assign rfl) ?_
  intro a hA
  refine seq_end ?_
  refine hK11 _ _ ?_
  refine wp_ret ?_
  refine hret _ _ ?_
  refine ends (v := .tuple #[.agg #[.bool false, .slice none 0 0, .slice none 0 0, .bool false, .slice none 0 0, .slice none 0 0], .int .i64 1]) hA rfl (.cons (res_cell hS ExV_isS_26 rfl 0 rfl (cs := [.bool false, .slice none 0 0, .slice none 0 0, .bool false, .slice none 0 0, .slice none 0 0]) rfl rfl) (.cons (res_tmp rfl) .nil)) rfl ?_
  rw [exptQ_arg hu hv (.inr hn)]
  exact ⟨none, 0, none, 0, none, 0, none, 0, rfl, ⟨(Sc.none _), (Sc.none _), (Sc.none _), (Sc.none _)⟩, hS.bel⟩
theorem expt0_any {w : World} {u v : Rat} {a1 a2 a3 a4 : Option Addr} {ac1 ac2 ac3 ac4 : Nat} (ha : Nm w (Q6.rat u v) a1 ac1 a2 ac2 a3 ac3 a4 ac4) (hu : fitR u) (hv : fitR v)  : Calls Try.prog 16 #[numV (Q6.rat u v) a1 ac1 a2 ac2 a3 ac3 a4 ac4, .int .i64 0] w (AnsN w (exptQ (Q6.rat u v) 0)) := by
  have hS : St w w [] [(a4, words v.den), (a3, words v.num.natAbs), (a2, words u.den), (a1, words u.num.natAbs)] [] := ((((St.start w).addR ha.s1.rd).addR ha.s2.rd).addR ha.s3.rd).addR ha.s4.rd
  refine walk_of (l := [(0, .agg #[.bool (rb u.num), .slice a1 ((words u.num.natAbs).length) ac1, .slice a2 ((words u.den).length) ac2, .bool (rb v.num), .slice a3 ((words v.num.natAbs).length) ac3, .slice a4 ((words v.den).length) ac4]), (1, .int .i64 0)]) Try.func16 rfl Try.ntmps16 rfl rfl ?_
  intro Q hret hnorm hP a hA
  refine wp_seq_k (fun K1 hK1 => ?_)
  refine wp_region_lit ?_
  refine seq_new (vs := [.bool (rb u.num), .slice a1 ((words u.num.natAbs).length) ac1, .slice a2 ((words u.den).length) ac2, .bool (rb v.num), .slice a3 ((words v.num.natAbs).length) ac3, .slice a4 ((words v.den).length) ac4]) (t := 26) hA hS rfl rfl rfl (fun g => .pointer (some ⟨g, 0, none⟩)) (does_box rfl rfl) rfl ?_
  intro g2 w3 hS a hA
  refine seq_new (vs := [.bool false, .slice none 0 0, .slice none 0 0, .bool false, .slice none 0 0, .slice none 0 0]) (t := 26) hA hS rfl rfl rfl (fun g => .pointer (some ⟨g, 0, none⟩)) (does_alloc (z := .agg #[.bool false, .slice none 0 0, .slice none 0 0, .bool false, .slice none 0 0, .slice none 0 0]) (by kernel_rfl) rfl) rfl ?_
  intro g4 w5 hS a hA
  refine seq_do hA rfl rfl rfl (does_assign rfl) ?_
  intro a hA
  refine seq_end ?_
  refine hK1 _ _ ?_
  refine wp_seq_k (fun K6 hK6 => ?_)
  refine wp_block ?_
  refine wp_seq_k (fun K7 hK7 => ?_)
  refine wp_region_lit ?_
  refine seq_do (v := .agg #[.bool (rb u.num), .slice a1 ((words u.num.natAbs).length) ac1, .slice a2 ((words u.den).length) ac2, .bool (rb v.num), .slice a3 ((words v.num.natAbs).length) ac3, .slice a4 ((words v.den).length) ac4]) hA rfl rfl rfl (does_loadS hS ExV_isS_26 rfl 1 rfl (cs := [.bool (rb u.num), .slice a1 ((words u.num.natAbs).length) ac1, .slice a2 ((words u.den).length) ac2, .bool (rb v.num), .slice a3 ((words v.num.natAbs).length) ac3, .slice a4 ((words v.den).length) ac4]) rfl rfl) ?_
  intro a hA
  refine seq_call hA rfl rfl rfl (enters_func  rfl rfl (fun w => by kernel_rfl)) (soundQ_any (show Nm _ (Q6.rat u v) a1 ac1 a2 ac2 a3 ac3 a4 ac4 from ⟨⟨(hS.rd 3 rfl), ha.s1.nil, ha.s1.cap⟩, ⟨(hS.rd 2 rfl), ha.s2.nil, ha.s2.cap⟩, ⟨(hS.rd 1 rfl), ha.s3.nil, ha.s3.cap⟩, ⟨(hS.rd 0 rfl), ha.s4.nil, ha.s4.cap⟩⟩) (lenQ_rat hu hv) (soundQ_rat hu hv)) ?_
  rintro _ w9 ⟨rfl, hb8⟩
  replace hS := hS.call hb8
  refine ⟨_, rfl, ?_⟩
  intro a hA
  refine seq_do (v := .bool false) hA rfl rfl rfl (does_un rfl un_not) ?_
  intro a hA
  refine seq_do hA rfl rfl rfl (does_assign rfl) ?_
  intro a hA
  refine seq_end ?_
  refine hK7 _ _ ?_
  refine wp_cond_false (hA.ev rfl) ?_
  refine wp_seq_k (fun K10 hK10 => ?_)
  refine wp_region_lit ?_
  refine seq_do hA rfl rfl rfl (does_move rfl) ?_
  intro a hA
  refine seq_do (v := .bool false) hA rfl rfl rfl (does_bin rfl rfl (fun w => by kernel_rfl)) ?_
  intro a hA
  refine seq_do hA rfl rfl rfl (does_move rfl) ?_
  intro a hA
  refine seq_do hA rfl rfl rfl (does_move rfl) ?_
  intro a hA
  refine seq_do (v := .bool false) hA rfl rfl rfl (does_bin rfl rfl (fun w => by kernel_rfl)) ?_
  intro a hA
  refine seq_do (v := .bool false) hA rfl rfl rfl (does_pick rfl rfl rfl rfl) ?_
  intro a hA
  refine seq_do hA rfl rfl rfl (does_assign rfl) ?_
  intro a hA
  refine seq_end ?_
  refine hK10 _ _ ?_
  refine wp_cond_false (hA.ev rfl) ?_
  refine wp_seq_k (fun K11 hK11 => ?_)
  refine wp_region_lit ?_
  refine seq_do hA rfl rfl rfl (does_move rfl) ?_
  intro a hA
  refine seq_do (v := .bool true) hA rfl rfl rfl (does_bin rfl rfl (fun w => by kernel_rfl)) ?_
  intro a hA
  refine seq_do hA rfl rfl rfl (does_assign rfl) ?_
  intro a hA
  refine seq_end ?_
  refine hK11 _ _ ?_
  refine wp_cond_true (hA.ev rfl) ?_
  refine wp_seq_k (fun K12 hK12 => ?_)
  refine wp_region_lit ?_
  refine seq_call hA rfl rfl rfl (enters_func  rfl rfl (fun w => by kernel_rfl)) ((show Calls Try.prog 13 #[.int .i64 (1)] _ (AnsV _ (Q6.whole false 1)) from intP_any (k := 1) (by decide))) ?_
  rintro _ w16 ⟨p13_1, p13_c1, p13_2, p13_c2, p13_3, p13_c3, p13_4, p13_c4, rfl, hn14, hb15⟩
  replace hS := hS.call hb15
  replace hS := hS.addR hn14.s1.rd
  replace hS := hS.addR hn14.s2.rd
  replace hS := hS.addR hn14.s3.rd
  replace hS := hS.addR hn14.s4.rd
  refine ⟨_, rfl, ?_⟩
  intro a hA
  refine seq_store (us := [.bool false, .slice p13_1 ((words 1).length) p13_c1, .slice p13_2 1 p13_c2, .bool false, .slice p13_3 0 p13_c3, .slice p13_4 1 p13_c4]) hA hS rfl rfl (sets_store (cs := [.bool false, .slice p13_1 ((words 1).length) p13_c1, .slice p13_2 1 p13_c2, .bool false, .slice p13_3 0 p13_c3, .slice p13_4 1 p13_c4]) rfl rfl rfl (by kernel_rfl) hS 0 rfl rfl rfl) 0 rfl rfl rfl rfl ?_
  intro w17 hS
  refine seq_do hA rfl rfl rfl (does_assign rfl) ?_
  intro a hA
  refine seq_end ?_
  refine hK12 _ _ ?_
  refine wp_ret ?_
  refine hret _ _ ?_
  refine ends (v := .tuple #[.agg #[.bool false, .slice p13_1 ((words 1).length) p13_c1, .slice p13_2 1 p13_c2, .bool false, .slice p13_3 0 p13_c3, .slice p13_4 1 p13_c4], .int .i64 0]) hA rfl (.cons (res_cell hS ExV_isS_26 rfl 0 rfl (cs := [.bool false, .slice p13_1 ((words 1).length) p13_c1, .slice p13_2 1 p13_c2, .bool false, .slice p13_3 0 p13_c3, .slice p13_4 1 p13_c4]) rfl rfl) (.cons (res_tmp rfl) .nil)) rfl ?_
  rw [exptQ_0 hu hv]
  exact ⟨p13_1, p13_c1, p13_2, p13_c2, p13_3, p13_c3, p13_4, p13_c4, rfl, ⟨⟨(hS.rd 3 rfl), hn14.s1.nil, hn14.s1.cap⟩, ⟨(hS.rd 2 rfl), hn14.s2.nil, hn14.s2.cap⟩, ⟨(hS.rd 1 rfl), hn14.s3.nil, hn14.s3.cap⟩, ⟨(hS.rd 0 rfl), hn14.s4.nil, hn14.s4.cap⟩⟩, hS.bel⟩
theorem exptZ_any {w : World} {u v : Rat} {a1 a2 a3 a4 : Option Addr} {ac1 ac2 ac3 ac4 : Nat} (ha : Nm w (Q6.rat u v) a1 ac1 a2 ac2 a3 ac3 a4 ac4) (hu : fitR u) (hv : fitR v) {N : Nat} (h1 : 1 ≤ N) (h2 : N ≤ 1024) (hz : u = 0 ∧ v = 0) : Calls Try.prog 16 #[numV (Q6.rat u v) a1 ac1 a2 ac2 a3 ac3 a4 ac4, .int .i64 (-((N : Nat) : Int))] w (AnsN w (exptQ (Q6.rat u v) (-((N : Nat) : Int)))) := by
  have k1 : (words u.num.natAbs).length ≤ 512 := hu.1
  have k2 : (words v.num.natAbs).length ≤ 512 := hv.1
  have hS : St w w [] [(a4, words v.den), (a3, words v.num.natAbs), (a2, words u.den), (a1, words u.num.natAbs)] [] := ((((St.start w).addR ha.s1.rd).addR ha.s2.rd).addR ha.s3.rd).addR ha.s4.rd
  refine walk_of (l := [(0, .agg #[.bool (rb u.num), .slice a1 ((words u.num.natAbs).length) ac1, .slice a2 ((words u.den).length) ac2, .bool (rb v.num), .slice a3 ((words v.num.natAbs).length) ac3, .slice a4 ((words v.den).length) ac4]), (1, .int .i64 (-((N : Nat) : Int)))]) Try.func16 rfl Try.ntmps16 rfl rfl ?_
  intro Q hret hnorm hP a hA
  refine wp_seq_k (fun K1 hK1 => ?_)
  refine wp_region_lit ?_
  refine seq_new (vs := [.bool (rb u.num), .slice a1 ((words u.num.natAbs).length) ac1, .slice a2 ((words u.den).length) ac2, .bool (rb v.num), .slice a3 ((words v.num.natAbs).length) ac3, .slice a4 ((words v.den).length) ac4]) (t := 26) hA hS rfl rfl rfl (fun g => .pointer (some ⟨g, 0, none⟩)) (does_box rfl rfl) rfl ?_
  intro g2 w3 hS a hA
  refine seq_new (vs := [.bool false, .slice none 0 0, .slice none 0 0, .bool false, .slice none 0 0, .slice none 0 0]) (t := 26) hA hS rfl rfl rfl (fun g => .pointer (some ⟨g, 0, none⟩)) (does_alloc (z := .agg #[.bool false, .slice none 0 0, .slice none 0 0, .bool false, .slice none 0 0, .slice none 0 0]) (by kernel_rfl) rfl) rfl ?_
  intro g4 w5 hS a hA
  refine seq_do hA rfl rfl rfl (does_assign rfl) ?_
  intro a hA
  refine seq_end ?_
  refine hK1 _ _ ?_
  refine wp_seq_k (fun K6 hK6 => ?_)
  refine wp_block ?_
  refine wp_seq_k (fun K7 hK7 => ?_)
  refine wp_region_lit ?_
  refine seq_do (v := .agg #[.bool (rb u.num), .slice a1 ((words u.num.natAbs).length) ac1, .slice a2 ((words u.den).length) ac2, .bool (rb v.num), .slice a3 ((words v.num.natAbs).length) ac3, .slice a4 ((words v.den).length) ac4]) hA rfl rfl rfl (does_loadS hS ExV_isS_26 rfl 1 rfl (cs := [.bool (rb u.num), .slice a1 ((words u.num.natAbs).length) ac1, .slice a2 ((words u.den).length) ac2, .bool (rb v.num), .slice a3 ((words v.num.natAbs).length) ac3, .slice a4 ((words v.den).length) ac4]) rfl rfl) ?_
  intro a hA
  refine seq_call hA rfl rfl rfl (enters_func  rfl rfl (fun w => by kernel_rfl)) (soundQ_any (show Nm _ (Q6.rat u v) a1 ac1 a2 ac2 a3 ac3 a4 ac4 from ⟨⟨(hS.rd 3 rfl), ha.s1.nil, ha.s1.cap⟩, ⟨(hS.rd 2 rfl), ha.s2.nil, ha.s2.cap⟩, ⟨(hS.rd 1 rfl), ha.s3.nil, ha.s3.cap⟩, ⟨(hS.rd 0 rfl), ha.s4.nil, ha.s4.cap⟩⟩) (lenQ_rat hu hv) (soundQ_rat hu hv)) ?_
  rintro _ w9 ⟨rfl, hb8⟩
  replace hS := hS.call hb8
  refine ⟨_, rfl, ?_⟩
  intro a hA
  refine seq_do (v := .bool false) hA rfl rfl rfl (does_un rfl un_not) ?_
  intro a hA
  refine seq_do hA rfl rfl rfl (does_assign rfl) ?_
  intro a hA
  refine seq_end ?_
  refine hK7 _ _ ?_
  refine wp_cond_false (hA.ev rfl) ?_
  refine wp_seq_k (fun K10 hK10 => ?_)
  refine wp_region_lit ?_
  refine seq_do hA rfl rfl rfl (does_move rfl) ?_
  intro a hA
  refine seq_do (v := .bool false) hA rfl rfl rfl (does_bin rfl rfl (fun w => (bin_lss w).trans (by rw [show (decide (-((N : Nat) : Int) < -1024)) = false from (decide_eq_false (by omega))]))) ?_
  intro a hA
  refine seq_do hA rfl rfl rfl (does_move rfl) ?_
  intro a hA
  refine seq_do hA rfl rfl rfl (does_move rfl) ?_
  intro a hA
  refine seq_do (v := .bool false) hA rfl rfl rfl (does_bin rfl rfl (fun w => (bin_gtr w).trans (by rw [show (decide (1024 < -((N : Nat) : Int))) = false from (decide_eq_false (by omega))]))) ?_
  intro a hA
  refine seq_do (v := .bool false) hA rfl rfl rfl (does_pick rfl rfl rfl rfl) ?_
  intro a hA
  refine seq_do hA rfl rfl rfl (does_assign rfl) ?_
  intro a hA
  refine seq_end ?_
  refine hK10 _ _ ?_
  refine wp_cond_false (hA.ev rfl) ?_
  refine wp_seq_k (fun K11 hK11 => ?_)
  refine wp_region_lit ?_
  refine seq_do hA rfl rfl rfl (does_move rfl) ?_
  intro a hA
  refine seq_do (v := .bool false) hA rfl rfl rfl (does_bin rfl rfl (fun w => (bin_eql w).trans (by rw [show ((-((N : Nat) : Int) == 0)) = false from (beq_eq_false_iff_ne.2 (by omega))]))) ?_
  intro a hA
  refine seq_do hA rfl rfl rfl (does_assign rfl) ?_
  intro a hA
  refine seq_end ?_
  refine hK11 _ _ ?_
  refine wp_cond_false (hA.ev rfl) ?_
  refine wp_seq_k (fun K12 hK12 => ?_)
  refine wp_region_lit ?_
  refine seq_do hA rfl rfl rfl (does_move rfl) ?_
  intro a hA
  refine seq_do (v := .bool true) hA rfl rfl rfl (does_bin rfl rfl (fun w => (bin_lss w).trans (by rw [show (decide (-((N : Nat) : Int) < 0)) = true from (decide_eq_true (by omega))]))) ?_
  intro a hA
  refine seq_do hA rfl rfl rfl (does_move rfl) ?_
  intro a hA
  refine seq_do (v := .agg #[.bool (rb u.num), .slice a1 ((words u.num.natAbs).length) ac1, .slice a2 ((words u.den).length) ac2, .bool (rb v.num), .slice a3 ((words v.num.natAbs).length) ac3, .slice a4 ((words v.den).length) ac4]) hA rfl rfl rfl (does_loadS hS ExV_isS_26 rfl 1 rfl (cs := [.bool (rb u.num), .slice a1 ((words u.num.natAbs).length) ac1, .slice a2 ((words u.den).length) ac2, .bool (rb v.num), .slice a3 ((words v.num.natAbs).length) ac3, .slice a4 ((words v.den).length) ac4]) rfl rfl) ?_
  intro a hA
  refine seq_call hA rfl rfl rfl (enters_func  rfl rfl (fun w => by kernel_rfl)) ((show Calls Try.prog 32 #[.agg #[.bool (rb u.num), .slice a1 ((words u.num.natAbs).length) ac1, .slice a2 ((words u.den).length) ac2, .bool (rb v.num), .slice a3 ((words v.num.natAbs).length) ac3, .slice a4 ((words v.den).length) ac4]] _ (fun e w' => e = .returned (.bool true) ∧ _) from (((zero_rat u v).trans (decide_eq_true hz)) ▸ isZero_any (by omega) (by omega)))) ?_
  rintro _ w14 ⟨rfl, hb13⟩
  replace hS := hS.call hb13
  refine ⟨_, rfl, ?_⟩
  intro a hA
  refine seq_do (v := .bool true) hA rfl rfl rfl (does_pick rfl rfl rfl rfl) ?_
  intro a hA
  refine seq_do hA rfl rfl rfl (does_assign rfl) ?_
  intro a hA
  refine seq_end ?_
  refine hK12 _ _ ?_
  refine wp_cond_true (hA.ev rfl) ?_
  refine wp_seq_k (fun K15 hK15 => ?_)
  refine wp_region_lit ?_
  refine seq_do (v := .agg #[.bool false, .slice none 0 0, .slice none 0 0, .bool false, .slice none 0 0, .slice none 0 0]) hA rfl rfl rfl (does_build rfl (fun w => by kernel_rfl)) ?_
  intro a hA
  refine seq_store (us := [.bool false, .slice none 0 0, .slice none 0 0, .bool false, .slice none 0 0, .slice none 0 0]) hA hS rfl rfl (sets_store (cs := [.bool false, .slice none 0 0, .slice none 0 0, .bool false, .slice none 0 0, .slice none 0 0]) rfl rfl rfl (by kernel_rfl) hS 0 rfl rfl rfl) 0 rfl rfl rfl rfl ?_
  intro w16 hS
  refine seq_do hA rfl rfl rfl (does_assign rfl) ?_
  intro a hA
  refine seq_end ?_
  refine hK15 _ _ ?_
  refine wp_ret ?_
  refine hret _ _ ?_
  refine ends (v := .tuple #[.agg #[.bool false, .slice none 0 0, .slice none 0 0, .bool false, .slice none 0 0, .slice none 0 0], .int .i64 3]) hA rfl (.cons (res_cell hS ExV_isS_26 rfl 0 rfl (cs := [.bool false, .slice none 0 0, .slice none 0 0, .bool false, .slice none 0 0, .slice none 0 0]) rfl rfl) (.cons (res_tmp rfl) .nil)) rfl ?_
  rw [exptQ_z hu hv h1 h2 hz]
  exact ⟨none, 0, none, 0, none, 0, none, 0, rfl, ⟨(Sc.none _), (Sc.none _), (Sc.none _), (Sc.none _)⟩, hS.bel⟩
theorem exptPT_any {w : World} {u v : Rat} {a1 a2 a3 a4 : Option Addr} {ac1 ac2 ac3 ac4 : Nat} (ha : Nm w (Q6.rat u v) a1 ac1 a2 ac2 a3 ac3 a4 ac4) (hu : fitR u) (hv : fitR v) {N : Nat} (h1 : 1 ≤ N) (h2 : N ≤ 1024) (hB : pwB u v N = true) : Calls Try.prog 16 #[numV (Q6.rat u v) a1 ac1 a2 ac2 a3 ac3 a4 ac4, .int .i64 (((N : Nat) : Int))] w (AnsN w (exptQ (Q6.rat u v) (((N : Nat) : Int)))) := by
  have hS : St w w [] [(a4, words v.den), (a3, words v.num.natAbs), (a2, words u.den), (a1, words u.num.natAbs)] [] := ((((St.start w).addR ha.s1.rd).addR ha.s2.rd).addR ha.s3.rd).addR ha.s4.rd
  refine walk_of (l := [(0, .agg #[.bool (rb u.num), .slice a1 ((words u.num.natAbs).length) ac1, .slice a2 ((words u.den).length) ac2, .bool (rb v.num), .slice a3 ((words v.num.natAbs).length) ac3, .slice a4 ((words v.den).length) ac4]), (1, .int .i64 (((N : Nat) : Int)))]) Try.func16 rfl Try.ntmps16 rfl rfl ?_
  intro Q hret hnorm hP a hA
  refine wp_seq_k (fun K1 hK1 => ?_)
  refine wp_region_lit ?_
  refine seq_new (vs := [.bool (rb u.num), .slice a1 ((words u.num.natAbs).length) ac1, .slice a2 ((words u.den).length) ac2, .bool (rb v.num), .slice a3 ((words v.num.natAbs).length) ac3, .slice a4 ((words v.den).length) ac4]) (t := 26) hA hS rfl rfl rfl (fun g => .pointer (some ⟨g, 0, none⟩)) (does_box rfl rfl) rfl ?_
  intro g2 w3 hS a hA
  refine seq_new (vs := [.bool false, .slice none 0 0, .slice none 0 0, .bool false, .slice none 0 0, .slice none 0 0]) (t := 26) hA hS rfl rfl rfl (fun g => .pointer (some ⟨g, 0, none⟩)) (does_alloc (z := .agg #[.bool false, .slice none 0 0, .slice none 0 0, .bool false, .slice none 0 0, .slice none 0 0]) (by kernel_rfl) rfl) rfl ?_
  intro g4 w5 hS a hA
  refine seq_do hA rfl rfl rfl (does_assign rfl) ?_
  intro a hA
  refine seq_end ?_
  refine hK1 _ _ ?_
  refine wp_seq_k (fun K6 hK6 => ?_)
  refine wp_block ?_
  refine wp_seq_k (fun K7 hK7 => ?_)
  refine wp_region_lit ?_
  refine seq_do (v := .agg #[.bool (rb u.num), .slice a1 ((words u.num.natAbs).length) ac1, .slice a2 ((words u.den).length) ac2, .bool (rb v.num), .slice a3 ((words v.num.natAbs).length) ac3, .slice a4 ((words v.den).length) ac4]) hA rfl rfl rfl (does_loadS hS ExV_isS_26 rfl 1 rfl (cs := [.bool (rb u.num), .slice a1 ((words u.num.natAbs).length) ac1, .slice a2 ((words u.den).length) ac2, .bool (rb v.num), .slice a3 ((words v.num.natAbs).length) ac3, .slice a4 ((words v.den).length) ac4]) rfl rfl) ?_
  intro a hA
  refine seq_call hA rfl rfl rfl (enters_func  rfl rfl (fun w => by kernel_rfl)) (soundQ_any (show Nm _ (Q6.rat u v) a1 ac1 a2 ac2 a3 ac3 a4 ac4 from ⟨⟨(hS.rd 3 rfl), ha.s1.nil, ha.s1.cap⟩, ⟨(hS.rd 2 rfl), ha.s2.nil, ha.s2.cap⟩, ⟨(hS.rd 1 rfl), ha.s3.nil, ha.s3.cap⟩, ⟨(hS.rd 0 rfl), ha.s4.nil, ha.s4.cap⟩⟩) (lenQ_rat hu hv) (soundQ_rat hu hv)) ?_
  rintro _ w9 ⟨rfl, hb8⟩
  replace hS := hS.call hb8
  refine ⟨_, rfl, ?_⟩
  intro a hA
  refine seq_do (v := .bool false) hA rfl rfl rfl (does_un rfl un_not) ?_
  intro a hA
  refine seq_do hA rfl rfl rfl (does_assign rfl) ?_
  intro a hA
  refine seq_end ?_
  refine hK7 _ _ ?_
  refine wp_cond_false (hA.ev rfl) ?_
  refine wp_seq_k (fun K10 hK10 => ?_)
  refine wp_region_lit ?_
  refine seq_do hA rfl rfl rfl (does_move rfl) ?_
  intro a hA
  refine seq_do (v := .bool false) hA rfl rfl rfl (does_bin rfl rfl (fun w => (bin_lss w).trans (by rw [show (decide (((N : Nat) : Int) < -1024)) = false from (decide_eq_false (by omega))]))) ?_
  intro a hA
  refine seq_do hA rfl rfl rfl (does_move rfl) ?_
  intro a hA
  refine seq_do hA rfl rfl rfl (does_move rfl) ?_
  intro a hA
  refine seq_do (v := .bool false) hA rfl rfl rfl (does_bin rfl rfl (fun w => (bin_gtr w).trans (by rw [show (decide (1024 < ((N : Nat) : Int))) = false from (decide_eq_false (by omega))]))) ?_
  intro a hA
  refine seq_do (v := .bool false) hA rfl rfl rfl (does_pick rfl rfl rfl rfl) ?_
  intro a hA
  refine seq_do hA rfl rfl rfl (does_assign rfl) ?_
  intro a hA
  refine seq_end ?_
  refine hK10 _ _ ?_
  refine wp_cond_false (hA.ev rfl) ?_
  refine wp_seq_k (fun K11 hK11 => ?_)
  refine wp_region_lit ?_
  refine seq_do hA rfl rfl rfl (does_move rfl) ?_
  intro a hA
  refine seq_do (v := .bool false) hA rfl rfl rfl (does_bin rfl rfl (fun w => (bin_eql w).trans (by rw [show ((((N : Nat) : Int) == 0)) = false from (beq_eq_false_iff_ne.2 (by omega))]))) ?_
  intro a hA
  refine seq_do hA rfl rfl rfl (does_assign rfl) ?_
  intro a hA
  refine seq_end ?_
  refine hK11 _ _ ?_
  refine wp_cond_false (hA.ev rfl) ?_
  refine wp_seq_k (fun K12 hK12 => ?_)
  refine wp_region_lit ?_
  refine seq_do hA rfl rfl rfl (does_move rfl) ?_
  intro a hA
  refine seq_do (v := .bool false) hA rfl rfl rfl (does_bin rfl rfl (fun w => (bin_lss w).trans (by rw [show (decide (((N : Nat) : Int) < 0)) = false from (decide_eq_false (by omega))]))) ?_
  intro a hA
  refine seq_do hA rfl rfl rfl (does_move rfl) ?_
  intro a hA
  refine seq_skip hA rfl rfl rfl ?_
  intro a hA
  refine seq_skip hA rfl rfl rfl ?_
  intro a hA
  refine seq_do (v := .bool false) hA rfl rfl rfl (does_pick rfl rfl rfl rfl) ?_
  intro a hA
  refine seq_do hA rfl rfl rfl (does_assign rfl) ?_
  intro a hA
  refine seq_end ?_
  refine hK12 _ _ ?_
  refine wp_cond_false (hA.ev rfl) ?_
  refine wp_skip ?_
  refine hK6 _ _ ?_
  refine wp_seq_k (fun K13 hK13 => ?_)
  refine wp_region_lit ?_
  refine seq_do (v := .agg #[.bool (rb u.num), .slice a1 ((words u.num.natAbs).length) ac1, .slice a2 ((words u.den).length) ac2, .bool (rb v.num), .slice a3 ((words v.num.natAbs).length) ac3, .slice a4 ((words v.den).length) ac4]) hA rfl rfl rfl (does_loadS hS ExV_isS_26 rfl 1 rfl (cs := [.bool (rb u.num), .slice a1 ((words u.num.natAbs).length) ac1, .slice a2 ((words u.den).length) ac2, .bool (rb v.num), .slice a3 ((words v.num.natAbs).length) ac3, .slice a4 ((words v.den).length) ac4]) rfl rfl) ?_
  intro a hA
  refine seq_call hA rfl rfl rfl (enters_func  rfl rfl (fun w => by kernel_rfl)) (zspread_any (show Nm _ (Q6.rat u v) a1 ac1 a2 ac2 a3 ac3 a4 ac4 from ⟨⟨(hS.rd 3 rfl), ha.s1.nil, ha.s1.cap⟩, ⟨(hS.rd 2 rfl), ha.s2.nil, ha.s2.cap⟩, ⟨(hS.rd 1 rfl), ha.s3.nil, ha.s3.cap⟩, ⟨(hS.rd 0 rfl), ha.s4.nil, ha.s4.cap⟩⟩) hu hv) ?_
  rintro _ w19 ⟨p14_1, p14_c1, p14_2, p14_c2, p14_3, p14_c3, rfl, hs15, hs16, hs17, hb18⟩
  replace hS := hS.call hb18
  replace hS := hS.addR hs15.rd
  replace hS := hS.addR hs16.rd
  replace hS := hS.addR hs17.rd
  refine ⟨_, rfl, ?_⟩
  intro a hA
  refine seq_do hA rfl rfl rfl (does_move rfl) ?_
  intro a hA
  refine seq_do hA rfl rfl rfl (does_move rfl) ?_
  intro a hA
  refine seq_do (v := .int .i64 (-(((N : Nat) : Int)))) hA rfl rfl rfl (does_un rfl (un_neg (i64In (by omega) (by omega)))) ?_
  intro a hA
  refine seq_do (v := .int .i64 (((N : Nat) : Int))) hA rfl rfl rfl (does_builtin rfl (run_maxI (by split <;> omega))) ?_
  intro a hA
  refine seq_call hA rfl rfl rfl (enters_func  rfl rfl (fun w => by kernel_rfl)) (zpowerT_any (n := N) ⟨(hS.rd 2 rfl), hs15.nil, hs15.cap⟩ ⟨(hS.rd 1 rfl), hs16.nil, hs16.cap⟩ ⟨(hS.rd 0 rfl), hs17.nil, hs17.cap⟩ (spX_len hu hv) (spY_len hu hv) (spD_len hu hv) (spD_ne u v) (spX_mk u v) (spY_mk u v) hu hv h1 h2 hB) ?_
  rintro _ w24 ⟨X, Y, D, ⟨hD9, hX9, hY9, lX9, lY9, lD9⟩, po1, poc1, po2, poc2, po3, poc3, rfl, hs21, hs22, hs23, hb20⟩
  replace hS := hS.call hb20
  replace hS := hS.addR hs21.rd
  replace hS := hS.addR hs22.rd
  replace hS := hS.addR hs23.rd
  refine ⟨_, rfl, ?_⟩
  intro a hA
  refine seq_do hA rfl rfl rfl (does_move rfl) ?_
  intro a hA
  refine seq_do (v := .agg #[.bool ((rb X)), .slice po1 ((words X.natAbs).length) poc1, .bool ((rb Y)), .slice po2 ((words Y.natAbs).length) poc2, .slice po3 ((words D).length) poc3]) hA rfl rfl rfl (does_extract (vs := [.agg #[.bool ((rb X)), .slice po1 ((words X.natAbs).length) poc1, .bool ((rb Y)), .slice po2 ((words Y.natAbs).length) poc2, .slice po3 ((words D).length) poc3], .int .i64 0]) rfl rfl) ?_
  intro a hA
  refine seq_do (v := .int .i64 0) hA rfl rfl rfl (does_extract (vs := [.agg #[.bool ((rb X)), .slice po1 ((words X.natAbs).length) poc1, .bool ((rb Y)), .slice po2 ((words Y.natAbs).length) poc2, .slice po3 ((words D).length) poc3], .int .i64 0]) rfl rfl) ?_
  intro a hA
  refine seq_new (vs := [.bool false, .slice none 0 0, .bool false, .slice none 0 0, .slice none 0 0]) (t := 48) hA hS rfl rfl rfl (fun g => .pointer (some ⟨g, 0, none⟩)) (does_alloc (z := .agg #[.bool false, .slice none 0 0, .bool false, .slice none 0 0, .slice none 0 0]) (by kernel_rfl) rfl) rfl ?_
  intro g25 w26 hS a hA
  refine seq_store (us := [.bool ((rb X)), .slice po1 ((words X.natAbs).length) poc1, .bool ((rb Y)), .slice po2 ((words Y.natAbs).length) poc2, .slice po3 ((words D).length) poc3]) hA hS rfl rfl (sets_store (cs := [.bool ((rb X)), .slice po1 ((words X.natAbs).length) poc1, .bool ((rb Y)), .slice po2 ((words Y.natAbs).length) poc2, .slice po3 ((words D).length) poc3]) rfl rfl rfl (by kernel_rfl) hS 0 rfl rfl rfl) 0 rfl rfl rfl rfl ?_
  intro w27 hS
  refine seq_do hA rfl rfl rfl (does_assign rfl) ?_
  intro a hA
  refine seq_end ?_
  refine hK13 _ _ ?_
  refine wp_seq_k (fun K28 hK28 => ?_)
  refine wp_seq_k (fun K29 hK29 => ?_)
  refine wp_region_lit ?_
  refine seq_do hA rfl rfl rfl (does_move rfl) ?_
  intro a hA
  refine seq_do (v := .bool false) hA rfl rfl rfl (does_bin rfl rfl (fun w => by kernel_rfl)) ?_
  intro a hA
  refine seq_end ?_
  refine hK29 _ _ ?_
  refine wp_cond_false (hA.ev rfl) ?_
  refine wp_skip ?_
  refine hK28 _ _ ?_
  refine wp_seq_k (fun K30 hK30 => ?_)
  refine wp_seq_k (fun K31 hK31 => ?_)
  refine wp_region_lit ?_
  refine seq_do hA rfl rfl rfl (does_move rfl) ?_
  intro a hA
  refine seq_do (v := .bool false) hA rfl rfl rfl (does_bin rfl rfl (fun w => (bin_lss w).trans (by rw [show (decide (((N : Nat) : Int) < 0)) = false from (decide_eq_false (by omega))]))) ?_
  intro a hA
  refine seq_end ?_
  refine hK31 _ _ ?_
  refine wp_cond_false (hA.ev rfl) ?_
  refine wp_skip ?_
  refine hK30 _ _ ?_
  refine wp_seq_k (fun K32 hK32 => ?_)
  refine wp_region_lit ?_
  refine seq_do (v := .agg #[.bool ((rb X)), .slice po1 ((words X.natAbs).length) poc1, .bool ((rb Y)), .slice po2 ((words Y.natAbs).length) poc2, .slice po3 ((words D).length) poc3]) hA rfl rfl rfl (does_loadS hS ExV_isS_48 rfl 0 rfl (cs := [.bool ((rb X)), .slice po1 ((words X.natAbs).length) poc1, .bool ((rb Y)), .slice po2 ((words Y.natAbs).length) poc2, .slice po3 ((words D).length) poc3]) rfl rfl) ?_
  intro a hA
  refine seq_call hA rfl rfl rfl (enters_func  rfl rfl (fun w => by kernel_rfl)) (zsettle_as ⟨(hS.rd 2 rfl), hs21.nil, hs21.cap⟩ ⟨(hS.rd 1 rfl), hs22.nil, hs22.cap⟩ ⟨(hS.rd 0 rfl), hs23.nil, hs23.cap⟩ (set_pw hD9 hX9 hY9) (by omega) (by omega) (by omega) hD9) ?_
  rintro _ w36 ⟨p33_1, p33_c1, p33_2, p33_c2, p33_3, p33_c3, p33_4, p33_c4, rfl, hn34, hb35⟩
  replace hS := hS.call hb35
  replace hS := hS.addR hn34.s1.rd
  replace hS := hS.addR hn34.s2.rd
  replace hS := hS.addR hn34.s3.rd
  replace hS := hS.addR hn34.s4.rd
  refine ⟨_, rfl, ?_⟩
  intro a hA
  refine seq_do (v := .agg #[.bool ((ratS (pwR u v N).1 (pwR u v N).2).1.b1), .slice p33_1 (((ratS (pwR u v N).1 (pwR u v N).2).1.t1).length) p33_c1, .slice p33_2 (((ratS (pwR u v N).1 (pwR u v N).2).1.q1).length) p33_c2, .bool ((ratS (pwR u v N).1 (pwR u v N).2).1.b2), .slice p33_3 (((ratS (pwR u v N).1 (pwR u v N).2).1.t2).length) p33_c3, .slice p33_4 (((ratS (pwR u v N).1 (pwR u v N).2).1.q2).length) p33_c4]) hA rfl rfl rfl (does_extract (vs := [.agg #[.bool ((ratS (pwR u v N).1 (pwR u v N).2).1.b1), .slice p33_1 (((ratS (pwR u v N).1 (pwR u v N).2).1.t1).length) p33_c1, .slice p33_2 (((ratS (pwR u v N).1 (pwR u v N).2).1.q1).length) p33_c2, .bool ((ratS (pwR u v N).1 (pwR u v N).2).1.b2), .slice p33_3 (((ratS (pwR u v N).1 (pwR u v N).2).1.t2).length) p33_c3, .slice p33_4 (((ratS (pwR u v N).1 (pwR u v N).2).1.q2).length) p33_c4], .int .i64 ((ratS (pwR u v N).1 (pwR u v N).2).2)]) rfl rfl) ?_
  intro a hA
  refine seq_do (v := .int .i64 ((ratS (pwR u v N).1 (pwR u v N).2).2)) hA rfl rfl rfl (does_extract (vs := [.agg #[.bool ((ratS (pwR u v N).1 (pwR u v N).2).1.b1), .slice p33_1 (((ratS (pwR u v N).1 (pwR u v N).2).1.t1).length) p33_c1, .slice p33_2 (((ratS (pwR u v N).1 (pwR u v N).2).1.q1).length) p33_c2, .bool ((ratS (pwR u v N).1 (pwR u v N).2).1.b2), .slice p33_3 (((ratS (pwR u v N).1 (pwR u v N).2).1.t2).length) p33_c3, .slice p33_4 (((ratS (pwR u v N).1 (pwR u v N).2).1.q2).length) p33_c4], .int .i64 ((ratS (pwR u v N).1 (pwR u v N).2).2)]) rfl rfl) ?_
  intro a hA
  refine seq_store (us := [.bool ((ratS (pwR u v N).1 (pwR u v N).2).1.b1), .slice p33_1 (((ratS (pwR u v N).1 (pwR u v N).2).1.t1).length) p33_c1, .slice p33_2 (((ratS (pwR u v N).1 (pwR u v N).2).1.q1).length) p33_c2, .bool ((ratS (pwR u v N).1 (pwR u v N).2).1.b2), .slice p33_3 (((ratS (pwR u v N).1 (pwR u v N).2).1.t2).length) p33_c3, .slice p33_4 (((ratS (pwR u v N).1 (pwR u v N).2).1.q2).length) p33_c4]) hA hS rfl rfl (sets_store (cs := [.bool ((ratS (pwR u v N).1 (pwR u v N).2).1.b1), .slice p33_1 (((ratS (pwR u v N).1 (pwR u v N).2).1.t1).length) p33_c1, .slice p33_2 (((ratS (pwR u v N).1 (pwR u v N).2).1.q1).length) p33_c2, .bool ((ratS (pwR u v N).1 (pwR u v N).2).1.b2), .slice p33_3 (((ratS (pwR u v N).1 (pwR u v N).2).1.t2).length) p33_c3, .slice p33_4 (((ratS (pwR u v N).1 (pwR u v N).2).1.q2).length) p33_c4]) rfl rfl rfl (by kernel_rfl) hS 1 rfl rfl rfl) 1 rfl rfl rfl rfl ?_
  intro w37 hS
  refine seq_do hA rfl rfl rfl (does_assign rfl) ?_
  intro a hA
  refine seq_end ?_
  refine hK32 _ _ ?_
  refine wp_ret ?_
  refine hret _ _ ?_
  refine ends (v := .tuple #[.agg #[.bool ((ratS (pwR u v N).1 (pwR u v N).2).1.b1), .slice p33_1 (((ratS (pwR u v N).1 (pwR u v N).2).1.t1).length) p33_c1, .slice p33_2 (((ratS (pwR u v N).1 (pwR u v N).2).1.q1).length) p33_c2, .bool ((ratS (pwR u v N).1 (pwR u v N).2).1.b2), .slice p33_3 (((ratS (pwR u v N).1 (pwR u v N).2).1.t2).length) p33_c3, .slice p33_4 (((ratS (pwR u v N).1 (pwR u v N).2).1.q2).length) p33_c4], .int .i64 ((ratS (pwR u v N).1 (pwR u v N).2).2)]) hA rfl (.cons (res_cell hS ExV_isS_26 rfl 1 rfl (cs := [.bool ((ratS (pwR u v N).1 (pwR u v N).2).1.b1), .slice p33_1 (((ratS (pwR u v N).1 (pwR u v N).2).1.t1).length) p33_c1, .slice p33_2 (((ratS (pwR u v N).1 (pwR u v N).2).1.q1).length) p33_c2, .bool ((ratS (pwR u v N).1 (pwR u v N).2).1.b2), .slice p33_3 (((ratS (pwR u v N).1 (pwR u v N).2).1.t2).length) p33_c3, .slice p33_4 (((ratS (pwR u v N).1 (pwR u v N).2).1.q2).length) p33_c4]) rfl rfl) (.cons (res_tmp rfl) .nil)) rfl ?_
  rw [exptQ_pos hu hv h1 h2, if_pos hB]
  exact ⟨p33_1, p33_c1, p33_2, p33_c2, p33_3, p33_c3, p33_4, p33_c4, rfl, ⟨⟨(hS.rd 3 rfl), hn34.s1.nil, hn34.s1.cap⟩, ⟨(hS.rd 2 rfl), hn34.s2.nil, hn34.s2.cap⟩, ⟨(hS.rd 1 rfl), hn34.s3.nil, hn34.s3.cap⟩, ⟨(hS.rd 0 rfl), hn34.s4.nil, hn34.s4.cap⟩⟩, hS.bel⟩
theorem exptPF_any {w : World} {u v : Rat} {a1 a2 a3 a4 : Option Addr} {ac1 ac2 ac3 ac4 : Nat} (ha : Nm w (Q6.rat u v) a1 ac1 a2 ac2 a3 ac3 a4 ac4) (hu : fitR u) (hv : fitR v) {N : Nat} (h1 : 1 ≤ N) (h2 : N ≤ 1024) (hB : pwB u v N = false) : Calls Try.prog 16 #[numV (Q6.rat u v) a1 ac1 a2 ac2 a3 ac3 a4 ac4, .int .i64 (((N : Nat) : Int))] w (AnsN w (exptQ (Q6.rat u v) (((N : Nat) : Int)))) := by
  have hS : St w w [] [(a4, words v.den), (a3, words v.num.natAbs), (a2, words u.den), (a1, words u.num.natAbs)] [] := ((((St.start w).addR ha.s1.rd).addR ha.s2.rd).addR ha.s3.rd).addR ha.s4.rd
  refine walk_of (l := [(0, .agg #[.bool (rb u.num), .slice a1 ((words u.num.natAbs).length) ac1, .slice a2 ((words u.den).length) ac2, .bool (rb v.num), .slice a3 ((words v.num.natAbs).length) ac3, .slice a4 ((words v.den).length) ac4]), (1, .int .i64 (((N : Nat) : Int)))]) Try.func16 rfl Try.ntmps16 rfl rfl ?_
  intro Q hret hnorm hP a hA
  refine wp_seq_k (fun K1 hK1 => ?_)
  refine wp_region_lit ?_
  refine seq_new (vs := [.bool (rb u.num), .slice a1 ((words u.num.natAbs).length) ac1, .slice a2 ((words u.den).length) ac2, .bool (rb v.num), .slice a3 ((words v.num.natAbs).length) ac3, .slice a4 ((words v.den).length) ac4]) (t := 26) hA hS rfl rfl rfl (fun g => .pointer (some ⟨g, 0, none⟩)) (does_box rfl rfl) rfl ?_
  intro g2 w3 hS a hA
  refine seq_new (vs := [.bool false, .slice none 0 0, .slice none 0 0, .bool false, .slice none 0 0, .slice none 0 0]) (t := 26) hA hS rfl rfl rfl (fun g => .pointer (some ⟨g, 0, none⟩)) (does_alloc (z := .agg #[.bool false, .slice none 0 0, .slice none 0 0, .bool false, .slice none 0 0, .slice none 0 0]) (by kernel_rfl) rfl) rfl ?_
  intro g4 w5 hS a hA
  refine seq_do hA rfl rfl rfl (does_assign rfl) ?_
  intro a hA
  refine seq_end ?_
  refine hK1 _ _ ?_
  refine wp_seq_k (fun K6 hK6 => ?_)
  refine wp_block ?_
  refine wp_seq_k (fun K7 hK7 => ?_)
  refine wp_region_lit ?_
  refine seq_do (v := .agg #[.bool (rb u.num), .slice a1 ((words u.num.natAbs).length) ac1, .slice a2 ((words u.den).length) ac2, .bool (rb v.num), .slice a3 ((words v.num.natAbs).length) ac3, .slice a4 ((words v.den).length) ac4]) hA rfl rfl rfl (does_loadS hS ExV_isS_26 rfl 1 rfl (cs := [.bool (rb u.num), .slice a1 ((words u.num.natAbs).length) ac1, .slice a2 ((words u.den).length) ac2, .bool (rb v.num), .slice a3 ((words v.num.natAbs).length) ac3, .slice a4 ((words v.den).length) ac4]) rfl rfl) ?_
  intro a hA
  refine seq_call hA rfl rfl rfl (enters_func  rfl rfl (fun w => by kernel_rfl)) (soundQ_any (show Nm _ (Q6.rat u v) a1 ac1 a2 ac2 a3 ac3 a4 ac4 from ⟨⟨(hS.rd 3 rfl), ha.s1.nil, ha.s1.cap⟩, ⟨(hS.rd 2 rfl), ha.s2.nil, ha.s2.cap⟩, ⟨(hS.rd 1 rfl), ha.s3.nil, ha.s3.cap⟩, ⟨(hS.rd 0 rfl), ha.s4.nil, ha.s4.cap⟩⟩) (lenQ_rat hu hv) (soundQ_rat hu hv)) ?_
  rintro _ w9 ⟨rfl, hb8⟩
  replace hS := hS.call hb8
  refine ⟨_, rfl, ?_⟩
  intro a hA
  refine seq_do (v := .bool false) hA rfl rfl rfl (does_un rfl un_not) ?_
  intro a hA
  refine seq_do hA rfl rfl rfl (does_assign rfl) ?_
  intro a hA
  refine seq_end ?_
  refine hK7 _ _ ?_
  refine wp_cond_false (hA.ev rfl) ?_
  refine wp_seq_k (fun K10 hK10 => ?_)
  refine wp_region_lit ?_
  refine seq_do hA rfl rfl rfl (does_move rfl) ?_
  intro a hA
  refine seq_do (v := .bool false) hA rfl rfl rfl (does_bin rfl rfl (fun w => (bin_lss w).trans (by rw [show (decide (((N : Nat) : Int) < -1024)) = false from (decide_eq_false (by omega))]))) ?_
  intro a hA
  refine seq_do hA rfl rfl rfl (does_move rfl) ?_
  intro a hA
  refine seq_do hA rfl rfl rfl (does_move rfl) ?_
  intro a hA
  refine seq_do (v := .bool false) hA rfl rfl rfl (does_bin rfl rfl (fun w => (bin_gtr w).trans (by rw [show (decide (1024 < ((N : Nat) : Int))) = false from (decide_eq_false (by omega))]))) ?_
  intro a hA
  refine seq_do (v := .bool false) hA rfl rfl rfl (does_pick rfl rfl rfl rfl) ?_
  intro a hA
  refine seq_do hA rfl rfl rfl (does_assign rfl) ?_
  intro a hA
  refine seq_end ?_
  refine hK10 _ _ ?_
  refine wp_cond_false (hA.ev rfl) ?_
  refine wp_seq_k (fun K11 hK11 => ?_)
  refine wp_region_lit ?_
  refine seq_do hA rfl rfl rfl (does_move rfl) ?_
  intro a hA
  refine seq_do (v := .bool false) hA rfl rfl rfl (does_bin rfl rfl (fun w => (bin_eql w).trans (by rw [show ((((N : Nat) : Int) == 0)) = false from (beq_eq_false_iff_ne.2 (by omega))]))) ?_
  intro a hA
  refine seq_do hA rfl rfl rfl (does_assign rfl) ?_
  intro a hA
  refine seq_end ?_
  refine hK11 _ _ ?_
  refine wp_cond_false (hA.ev rfl) ?_
  refine wp_seq_k (fun K12 hK12 => ?_)
  refine wp_region_lit ?_
  refine seq_do hA rfl rfl rfl (does_move rfl) ?_
  intro a hA
  refine seq_do (v := .bool false) hA rfl rfl rfl (does_bin rfl rfl (fun w => (bin_lss w).trans (by rw [show (decide (((N : Nat) : Int) < 0)) = false from (decide_eq_false (by omega))]))) ?_
  intro a hA
  refine seq_do hA rfl rfl rfl (does_move rfl) ?_
  intro a hA
  refine seq_skip hA rfl rfl rfl ?_
  intro a hA
  refine seq_skip hA rfl rfl rfl ?_
  intro a hA
  refine seq_do (v := .bool false) hA rfl rfl rfl (does_pick rfl rfl rfl rfl) ?_
  intro a hA
  refine seq_do hA rfl rfl rfl (does_assign rfl) ?_
  intro a hA
  refine seq_end ?_
  refine hK12 _ _ ?_
  refine wp_cond_false (hA.ev rfl) ?_
  refine wp_skip ?_
  refine hK6 _ _ ?_
  refine wp_seq_k (fun K13 hK13 => ?_)
  refine wp_region_lit ?_
  refine seq_do (v := .agg #[.bool (rb u.num), .slice a1 ((words u.num.natAbs).length) ac1, .slice a2 ((words u.den).length) ac2, .bool (rb v.num), .slice a3 ((words v.num.natAbs).length) ac3, .slice a4 ((words v.den).length) ac4]) hA rfl rfl rfl (does_loadS hS ExV_isS_26 rfl 1 rfl (cs := [.bool (rb u.num), .slice a1 ((words u.num.natAbs).length) ac1, .slice a2 ((words u.den).length) ac2, .bool (rb v.num), .slice a3 ((words v.num.natAbs).length) ac3, .slice a4 ((words v.den).length) ac4]) rfl rfl) ?_
  intro a hA
  refine seq_call hA rfl rfl rfl (enters_func  rfl rfl (fun w => by kernel_rfl)) (zspread_any (show Nm _ (Q6.rat u v) a1 ac1 a2 ac2 a3 ac3 a4 ac4 from ⟨⟨(hS.rd 3 rfl), ha.s1.nil, ha.s1.cap⟩, ⟨(hS.rd 2 rfl), ha.s2.nil, ha.s2.cap⟩, ⟨(hS.rd 1 rfl), ha.s3.nil, ha.s3.cap⟩, ⟨(hS.rd 0 rfl), ha.s4.nil, ha.s4.cap⟩⟩) hu hv) ?_
  rintro _ w19 ⟨p14_1, p14_c1, p14_2, p14_c2, p14_3, p14_c3, rfl, hs15, hs16, hs17, hb18⟩
  replace hS := hS.call hb18
  replace hS := hS.addR hs15.rd
  replace hS := hS.addR hs16.rd
  replace hS := hS.addR hs17.rd
  refine ⟨_, rfl, ?_⟩
  intro a hA
  refine seq_do hA rfl rfl rfl (does_move rfl) ?_
  intro a hA
  refine seq_do hA rfl rfl rfl (does_move rfl) ?_
  intro a hA
  refine seq_do (v := .int .i64 (-(((N : Nat) : Int)))) hA rfl rfl rfl (does_un rfl (un_neg (i64In (by omega) (by omega)))) ?_
  intro a hA
  refine seq_do (v := .int .i64 (((N : Nat) : Int))) hA rfl rfl rfl (does_builtin rfl (run_maxI (by split <;> omega))) ?_
  intro a hA
  refine seq_call hA rfl rfl rfl (enters_func  rfl rfl (fun w => by kernel_rfl)) (zpowerF_any (n := N) ⟨(hS.rd 2 rfl), hs15.nil, hs15.cap⟩ ⟨(hS.rd 1 rfl), hs16.nil, hs16.cap⟩ ⟨(hS.rd 0 rfl), hs17.nil, hs17.cap⟩ (spX_len hu hv) (spY_len hu hv) (spD_len hu hv) (spD_ne u v) (spX_mk u v) (spY_mk u v) hu hv h1 h2 hB) ?_
  rintro _ w21 ⟨rfl, hb20⟩
  replace hS := hS.call hb20
  refine ⟨_, rfl, ?_⟩
  intro a hA
  refine seq_do hA rfl rfl rfl (does_move rfl) ?_
  intro a hA
  refine seq_do (v := .agg #[.bool false, .slice none 0 0, .bool false, .slice none 0 0, .slice none 0 0]) hA rfl rfl rfl (does_extract (vs := [.agg #[.bool false, .slice none 0 0, .bool false, .slice none 0 0, .slice none 0 0], .int .i64 4]) rfl rfl) ?_
  intro a hA
  refine seq_do (v := .int .i64 4) hA rfl rfl rfl (does_extract (vs := [.agg #[.bool false, .slice none 0 0, .bool false, .slice none 0 0, .slice none 0 0], .int .i64 4]) rfl rfl) ?_
  intro a hA
  refine seq_new (vs := [.bool false, .slice none 0 0, .bool false, .slice none 0 0, .slice none 0 0]) (t := 48) hA hS rfl rfl rfl (fun g => .pointer (some ⟨g, 0, none⟩)) (does_alloc (z := .agg #[.bool false, .slice none 0 0, .bool false, .slice none 0 0, .slice none 0 0]) (by kernel_rfl) rfl) rfl ?_
  intro g22 w23 hS a hA
  refine seq_store (us := [.bool false, .slice none 0 0, .bool false, .slice none 0 0, .slice none 0 0]) hA hS rfl rfl (sets_store (cs := [.bool false, .slice none 0 0, .bool false, .slice none 0 0, .slice none 0 0]) rfl rfl rfl (by kernel_rfl) hS 0 rfl rfl rfl) 0 rfl rfl rfl rfl ?_
  intro w24 hS
  refine seq_do hA rfl rfl rfl (does_assign rfl) ?_
  intro a hA
  refine seq_end ?_
  refine hK13 _ _ ?_
  refine wp_seq_k (fun K25 hK25 => ?_)
  refine wp_seq_k (fun K26 hK26 => ?_)
  refine wp_region_lit ?_
  refine seq_do hA rfl rfl rfl (does_move rfl) ?_
  intro a hA
  refine seq_do (v := .bool true) hA rfl rfl rfl (does_bin rfl rfl (fun w => by kernel_rfl)) ?_
  intro a hA
  refine seq_end ?_
  refine hK26 _ _ ?_
  refine wp_cond_true (hA.ev rfl) ?_
  refine wp_seq_k (fun K27 hK27 => ?_)
  refine wp_region_lit ?_
  refine seq_do (v := .agg #[.bool false, .slice none 0 0, .slice none 0 0, .bool false, .slice none 0 0, .slice none 0 0]) hA rfl rfl rfl (does_build rfl (fun w => by kernel_rfl)) ?_
  intro a hA
  refine seq_do hA rfl rfl rfl (does_move rfl) ?_
  intro a hA
  refine seq_store (us := [.bool false, .slice none 0 0, .slice none 0 0, .bool false, .slice none 0 0, .slice none 0 0]) hA hS rfl rfl (sets_store (cs := [.bool false, .slice none 0 0, .slice none 0 0, .bool false, .slice none 0 0, .slice none 0 0]) rfl rfl rfl (by kernel_rfl) hS 1 rfl rfl rfl) 1 rfl rfl rfl rfl ?_
  intro w28 hS
  refine seq_do hA rfl rfl rfl (does_assign rfl) ?_
  intro a hA
  refine seq_end ?_
  refine hK27 _ _ ?_
  refine wp_ret ?_
  refine hret _ _ ?_
  refine ends (v := .tuple #[.agg #[.bool false, .slice none 0 0, .slice none 0 0, .bool false, .slice none 0 0, .slice none 0 0], .int .i64 4]) hA rfl (.cons (res_cell hS ExV_isS_26 rfl 1 rfl (cs := [.bool false, .slice none 0 0, .slice none 0 0, .bool false, .slice none 0 0, .slice none 0 0]) rfl rfl) (.cons (res_tmp rfl) .nil)) rfl ?_
  rw [exptQ_pos hu hv h1 h2, if_neg (by rw [hB]; decide)]
  exact ⟨none, 0, none, 0, none, 0, none, 0, rfl, ⟨(Sc.none _), (Sc.none _), (Sc.none _), (Sc.none _)⟩, hS.bel⟩
theorem exptMT_any {w : World} {u v : Rat} {a1 a2 a3 a4 : Option Addr} {ac1 ac2 ac3 ac4 : Nat} (ha : Nm w (Q6.rat u v) a1 ac1 a2 ac2 a3 ac3 a4 ac4) (hu : fitR u) (hv : fitR v) {N : Nat} (h1 : 1 ≤ N) (h2 : N ≤ 1024) (hz : ¬ (u = 0 ∧ v = 0)) (hB : pwB u v N = true) : Calls Try.prog 16 #[numV (Q6.rat u v) a1 ac1 a2 ac2 a3 ac3 a4 ac4, .int .i64 (-((N : Nat) : Int))] w (AnsN w (exptQ (Q6.rat u v) (-((N : Nat) : Int)))) := by
  have k1 : (words u.num.natAbs).length ≤ 512 := hu.1
  have k2 : (words v.num.natAbs).length ≤ 512 := hv.1
  have hS : St w w [] [(a4, words v.den), (a3, words v.num.natAbs), (a2, words u.den), (a1, words u.num.natAbs)] [] := ((((St.start w).addR ha.s1.rd).addR ha.s2.rd).addR ha.s3.rd).addR ha.s4.rd
  refine walk_of (l := [(0, .agg #[.bool (rb u.num), .slice a1 ((words u.num.natAbs).length) ac1, .slice a2 ((words u.den).length) ac2, .bool (rb v.num), .slice a3 ((words v.num.natAbs).length) ac3, .slice a4 ((words v.den).length) ac4]), (1, .int .i64 (-((N : Nat) : Int)))]) Try.func16 rfl Try.ntmps16 rfl rfl ?_
  intro Q hret hnorm hP a hA
  refine wp_seq_k (fun K1 hK1 => ?_)
  refine wp_region_lit ?_
  refine seq_new (vs := [.bool (rb u.num), .slice a1 ((words u.num.natAbs).length) ac1, .slice a2 ((words u.den).length) ac2, .bool (rb v.num), .slice a3 ((words v.num.natAbs).length) ac3, .slice a4 ((words v.den).length) ac4]) (t := 26) hA hS rfl rfl rfl (fun g => .pointer (some ⟨g, 0, none⟩)) (does_box rfl rfl) rfl ?_
  intro g2 w3 hS a hA
  refine seq_new (vs := [.bool false, .slice none 0 0, .slice none 0 0, .bool false, .slice none 0 0, .slice none 0 0]) (t := 26) hA hS rfl rfl rfl (fun g => .pointer (some ⟨g, 0, none⟩)) (does_alloc (z := .agg #[.bool false, .slice none 0 0, .slice none 0 0, .bool false, .slice none 0 0, .slice none 0 0]) (by kernel_rfl) rfl) rfl ?_
  intro g4 w5 hS a hA
  refine seq_do hA rfl rfl rfl (does_assign rfl) ?_
  intro a hA
  refine seq_end ?_
  refine hK1 _ _ ?_
  refine wp_seq_k (fun K6 hK6 => ?_)
  refine wp_block ?_
  refine wp_seq_k (fun K7 hK7 => ?_)
  refine wp_region_lit ?_
  refine seq_do (v := .agg #[.bool (rb u.num), .slice a1 ((words u.num.natAbs).length) ac1, .slice a2 ((words u.den).length) ac2, .bool (rb v.num), .slice a3 ((words v.num.natAbs).length) ac3, .slice a4 ((words v.den).length) ac4]) hA rfl rfl rfl (does_loadS hS ExV_isS_26 rfl 1 rfl (cs := [.bool (rb u.num), .slice a1 ((words u.num.natAbs).length) ac1, .slice a2 ((words u.den).length) ac2, .bool (rb v.num), .slice a3 ((words v.num.natAbs).length) ac3, .slice a4 ((words v.den).length) ac4]) rfl rfl) ?_
  intro a hA
  refine seq_call hA rfl rfl rfl (enters_func  rfl rfl (fun w => by kernel_rfl)) (soundQ_any (show Nm _ (Q6.rat u v) a1 ac1 a2 ac2 a3 ac3 a4 ac4 from ⟨⟨(hS.rd 3 rfl), ha.s1.nil, ha.s1.cap⟩, ⟨(hS.rd 2 rfl), ha.s2.nil, ha.s2.cap⟩, ⟨(hS.rd 1 rfl), ha.s3.nil, ha.s3.cap⟩, ⟨(hS.rd 0 rfl), ha.s4.nil, ha.s4.cap⟩⟩) (lenQ_rat hu hv) (soundQ_rat hu hv)) ?_
  rintro _ w9 ⟨rfl, hb8⟩
  replace hS := hS.call hb8
  refine ⟨_, rfl, ?_⟩
  intro a hA
  refine seq_do (v := .bool false) hA rfl rfl rfl (does_un rfl un_not) ?_
  intro a hA
  refine seq_do hA rfl rfl rfl (does_assign rfl) ?_
  intro a hA
  refine seq_end ?_
  refine hK7 _ _ ?_
  refine wp_cond_false (hA.ev rfl) ?_
  refine wp_seq_k (fun K10 hK10 => ?_)
  refine wp_region_lit ?_
  refine seq_do hA rfl rfl rfl (does_move rfl) ?_
  intro a hA
  refine seq_do (v := .bool false) hA rfl rfl rfl (does_bin rfl rfl (fun w => (bin_lss w).trans (by rw [show (decide (-((N : Nat) : Int) < -1024)) = false from (decide_eq_false (by omega))]))) ?_
  intro a hA
  refine seq_do hA rfl rfl rfl (does_move rfl) ?_
  intro a hA
  refine seq_do hA rfl rfl rfl (does_move rfl) ?_
  intro a hA
  refine seq_do (v := .bool false) hA rfl rfl rfl (does_bin rfl rfl (fun w => (bin_gtr w).trans (by rw [show (decide (1024 < -((N : Nat) : Int))) = false from (decide_eq_false (by omega))]))) ?_
  intro a hA
  refine seq_do (v := .bool false) hA rfl rfl rfl (does_pick rfl rfl rfl rfl) ?_
  intro a hA
  refine seq_do hA rfl rfl rfl (does_assign rfl) ?_
  intro a hA
  refine seq_end ?_
  refine hK10 _ _ ?_
  refine wp_cond_false (hA.ev rfl) ?_
  refine wp_seq_k (fun K11 hK11 => ?_)
  refine wp_region_lit ?_
  refine seq_do hA rfl rfl rfl (does_move rfl) ?_
  intro a hA
  refine seq_do (v := .bool false) hA rfl rfl rfl (does_bin rfl rfl (fun w => (bin_eql w).trans (by rw [show ((-((N : Nat) : Int) == 0)) = false from (beq_eq_false_iff_ne.2 (by omega))]))) ?_
  intro a hA
  refine seq_do hA rfl rfl rfl (does_assign rfl) ?_
  intro a hA
  refine seq_end ?_
  refine hK11 _ _ ?_
  refine wp_cond_false (hA.ev rfl) ?_
  refine wp_seq_k (fun K12 hK12 => ?_)
  refine wp_region_lit ?_
  refine seq_do hA rfl rfl rfl (does_move rfl) ?_
  intro a hA
  refine seq_do (v := .bool true) hA rfl rfl rfl (does_bin rfl rfl (fun w => (bin_lss w).trans (by rw [show (decide (-((N : Nat) : Int) < 0)) = true from (decide_eq_true (by omega))]))) ?_
  intro a hA
  refine seq_do hA rfl rfl rfl (does_move rfl) ?_
  intro a hA
  refine seq_do (v := .agg #[.bool (rb u.num), .slice a1 ((words u.num.natAbs).length) ac1, .slice a2 ((words u.den).length) ac2, .bool (rb v.num), .slice a3 ((words v.num.natAbs).length) ac3, .slice a4 ((words v.den).length) ac4]) hA rfl rfl rfl (does_loadS hS ExV_isS_26 rfl 1 rfl (cs := [.bool (rb u.num), .slice a1 ((words u.num.natAbs).length) ac1, .slice a2 ((words u.den).length) ac2, .bool (rb v.num), .slice a3 ((words v.num.natAbs).length) ac3, .slice a4 ((words v.den).length) ac4]) rfl rfl) ?_
  intro a hA
  refine seq_call hA rfl rfl rfl (enters_func  rfl rfl (fun w => by kernel_rfl)) ((show Calls Try.prog 32 #[.agg #[.bool (rb u.num), .slice a1 ((words u.num.natAbs).length) ac1, .slice a2 ((words u.den).length) ac2, .bool (rb v.num), .slice a3 ((words v.num.natAbs).length) ac3, .slice a4 ((words v.den).length) ac4]] _ (fun e w' => e = .returned (.bool false) ∧ _) from (((zero_rat u v).trans (decide_eq_false hz)) ▸ isZero_any (by omega) (by omega)))) ?_
  rintro _ w14 ⟨rfl, hb13⟩
  replace hS := hS.call hb13
  refine ⟨_, rfl, ?_⟩
  intro a hA
  refine seq_do (v := .bool false) hA rfl rfl rfl (does_pick rfl rfl rfl rfl) ?_
  intro a hA
  refine seq_do hA rfl rfl rfl (does_assign rfl) ?_
  intro a hA
  refine seq_end ?_
  refine hK12 _ _ ?_
  refine wp_cond_false (hA.ev rfl) ?_
  refine wp_skip ?_
  refine hK6 _ _ ?_
  refine wp_seq_k (fun K15 hK15 => ?_)
  refine wp_region_lit ?_
  refine seq_do (v := .agg #[.bool (rb u.num), .slice a1 ((words u.num.natAbs).length) ac1, .slice a2 ((words u.den).length) ac2, .bool (rb v.num), .slice a3 ((words v.num.natAbs).length) ac3, .slice a4 ((words v.den).length) ac4]) hA rfl rfl rfl (does_loadS hS ExV_isS_26 rfl 1 rfl (cs := [.bool (rb u.num), .slice a1 ((words u.num.natAbs).length) ac1, .slice a2 ((words u.den).length) ac2, .bool (rb v.num), .slice a3 ((words v.num.natAbs).length) ac3, .slice a4 ((words v.den).length) ac4]) rfl rfl) ?_
  intro a hA
  refine seq_call hA rfl rfl rfl (enters_func  rfl rfl (fun w => by kernel_rfl)) (zspread_any (show Nm _ (Q6.rat u v) a1 ac1 a2 ac2 a3 ac3 a4 ac4 from ⟨⟨(hS.rd 3 rfl), ha.s1.nil, ha.s1.cap⟩, ⟨(hS.rd 2 rfl), ha.s2.nil, ha.s2.cap⟩, ⟨(hS.rd 1 rfl), ha.s3.nil, ha.s3.cap⟩, ⟨(hS.rd 0 rfl), ha.s4.nil, ha.s4.cap⟩⟩) hu hv) ?_
  rintro _ w21 ⟨p16_1, p16_c1, p16_2, p16_c2, p16_3, p16_c3, rfl, hs17, hs18, hs19, hb20⟩
  replace hS := hS.call hb20
  replace hS := hS.addR hs17.rd
  replace hS := hS.addR hs18.rd
  replace hS := hS.addR hs19.rd
  refine ⟨_, rfl, ?_⟩
  intro a hA
  refine seq_do hA rfl rfl rfl (does_move rfl) ?_
  intro a hA
  refine seq_do hA rfl rfl rfl (does_move rfl) ?_
  intro a hA
  refine seq_do (v := .int .i64 (-(-((N : Nat) : Int)))) hA rfl rfl rfl (does_un rfl (un_neg (i64In (by omega) (by omega)))) ?_
  intro a hA
  refine seq_do (v := .int .i64 (((N : Nat) : Int))) hA rfl rfl rfl (does_builtin rfl (run_maxI (by split <;> omega))) ?_
  intro a hA
  refine seq_call hA rfl rfl rfl (enters_func  rfl rfl (fun w => by kernel_rfl)) (zpowerT_any (n := N) ⟨(hS.rd 2 rfl), hs17.nil, hs17.cap⟩ ⟨(hS.rd 1 rfl), hs18.nil, hs18.cap⟩ ⟨(hS.rd 0 rfl), hs19.nil, hs19.cap⟩ (spX_len hu hv) (spY_len hu hv) (spD_len hu hv) (spD_ne u v) (spX_mk u v) (spY_mk u v) hu hv h1 h2 hB) ?_
  rintro _ w26 ⟨X, Y, D, ⟨hD9, hX9, hY9, lX9, lY9, lD9⟩, po1, poc1, po2, poc2, po3, poc3, rfl, hs23, hs24, hs25, hb22⟩
  replace hS := hS.call hb22
  replace hS := hS.addR hs23.rd
  replace hS := hS.addR hs24.rd
  replace hS := hS.addR hs25.rd
  refine ⟨_, rfl, ?_⟩
  intro a hA
  refine seq_do hA rfl rfl rfl (does_move rfl) ?_
  intro a hA
  refine seq_do (v := .agg #[.bool ((rb X)), .slice po1 ((words X.natAbs).length) poc1, .bool ((rb Y)), .slice po2 ((words Y.natAbs).length) poc2, .slice po3 ((words D).length) poc3]) hA rfl rfl rfl (does_extract (vs := [.agg #[.bool ((rb X)), .slice po1 ((words X.natAbs).length) poc1, .bool ((rb Y)), .slice po2 ((words Y.natAbs).length) poc2, .slice po3 ((words D).length) poc3], .int .i64 0]) rfl rfl) ?_
  intro a hA
  refine seq_do (v := .int .i64 0) hA rfl rfl rfl (does_extract (vs := [.agg #[.bool ((rb X)), .slice po1 ((words X.natAbs).length) poc1, .bool ((rb Y)), .slice po2 ((words Y.natAbs).length) poc2, .slice po3 ((words D).length) poc3], .int .i64 0]) rfl rfl) ?_
  intro a hA
  refine seq_new (vs := [.bool false, .slice none 0 0, .bool false, .slice none 0 0, .slice none 0 0]) (t := 48) hA hS rfl rfl rfl (fun g => .pointer (some ⟨g, 0, none⟩)) (does_alloc (z := .agg #[.bool false, .slice none 0 0, .bool false, .slice none 0 0, .slice none 0 0]) (by kernel_rfl) rfl) rfl ?_
  intro g27 w28 hS a hA
  refine seq_store (us := [.bool ((rb X)), .slice po1 ((words X.natAbs).length) poc1, .bool ((rb Y)), .slice po2 ((words Y.natAbs).length) poc2, .slice po3 ((words D).length) poc3]) hA hS rfl rfl (sets_store (cs := [.bool ((rb X)), .slice po1 ((words X.natAbs).length) poc1, .bool ((rb Y)), .slice po2 ((words Y.natAbs).length) poc2, .slice po3 ((words D).length) poc3]) rfl rfl rfl (by kernel_rfl) hS 0 rfl rfl rfl) 0 rfl rfl rfl rfl ?_
  intro w29 hS
  refine seq_do hA rfl rfl rfl (does_assign rfl) ?_
  intro a hA
  refine seq_end ?_
  refine hK15 _ _ ?_
  refine wp_seq_k (fun K30 hK30 => ?_)
  refine wp_seq_k (fun K31 hK31 => ?_)
  refine wp_region_lit ?_
  refine seq_do hA rfl rfl rfl (does_move rfl) ?_
  intro a hA
  refine seq_do (v := .bool false) hA rfl rfl rfl (does_bin rfl rfl (fun w => by kernel_rfl)) ?_
  intro a hA
  refine seq_end ?_
  refine hK31 _ _ ?_
  refine wp_cond_false (hA.ev rfl) ?_
  refine wp_skip ?_
  refine hK30 _ _ ?_
  refine wp_seq_k (fun K32 hK32 => ?_)
  refine wp_seq_k (fun K33 hK33 => ?_)
  refine wp_region_lit ?_
  refine seq_do hA rfl rfl rfl (does_move rfl) ?_
  intro a hA
  refine seq_do (v := .bool true) hA rfl rfl rfl (does_bin rfl rfl (fun w => (bin_lss w).trans (by rw [show (decide (-((N : Nat) : Int) < 0)) = true from (decide_eq_true (by omega))]))) ?_
  intro a hA
  refine seq_end ?_
  refine hK33 _ _ ?_
  refine wp_cond_true (hA.ev rfl) ?_
  refine wp_region_lit ?_
  refine seq_do (v := .agg #[.bool ((rb X)), .slice po1 ((words X.natAbs).length) poc1, .bool ((rb Y)), .slice po2 ((words Y.natAbs).length) poc2, .slice po3 ((words D).length) poc3]) hA rfl rfl rfl (does_loadS hS ExV_isS_48 rfl 0 rfl (cs := [.bool ((rb X)), .slice po1 ((words X.natAbs).length) poc1, .bool ((rb Y)), .slice po2 ((words Y.natAbs).length) poc2, .slice po3 ((words D).length) poc3]) rfl rfl) ?_
  intro a hA
  refine seq_call hA rfl rfl rfl (enters_func  rfl rfl (fun w => by kernel_rfl)) (zinv_any ⟨(hS.rd 2 rfl), hs23.nil, hs23.cap⟩ ⟨(hS.rd 1 rfl), hs24.nil, hs24.cap⟩ ⟨(hS.rd 0 rfl), hs25.nil, hs25.cap⟩ (by omega) (by omega) (by omega)) ?_
  rintro _ w39 ⟨p34_1, p34_c1, p34_2, p34_c2, p34_3, p34_c3, rfl, hs35, hs36, hs37, hb38⟩
  replace hS := hS.call hb38
  replace hS := hS.addR hs35.rd
  replace hS := hS.addR hs36.rd
  replace hS := hS.addR hs37.rd
  refine ⟨_, rfl, ?_⟩
  intro a hA
  refine seq_store (us := [.bool ((rb (ivX X Y D))), .slice p34_1 ((words (ivX X Y D).natAbs).length) p34_c1, .bool ((rb (ivY X Y D))), .slice p34_2 ((words (ivY X Y D).natAbs).length) p34_c2, .slice p34_3 ((words (ivD X Y)).length) p34_c3]) hA hS rfl rfl (sets_store (cs := [.bool ((rb (ivX X Y D))), .slice p34_1 ((words (ivX X Y D).natAbs).length) p34_c1, .bool ((rb (ivY X Y D))), .slice p34_2 ((words (ivY X Y D).natAbs).length) p34_c2, .slice p34_3 ((words (ivD X Y)).length) p34_c3]) rfl rfl rfl (by kernel_rfl) hS 0 rfl rfl rfl) 0 rfl rfl rfl rfl ?_
  intro w40 hS
  refine seq_end ?_
  refine hK32 _ _ ?_
  refine wp_seq_k (fun K41 hK41 => ?_)
  refine wp_region_lit ?_
  refine seq_do (v := .agg #[.bool ((rb (ivX X Y D))), .slice p34_1 ((words (ivX X Y D).natAbs).length) p34_c1, .bool ((rb (ivY X Y D))), .slice p34_2 ((words (ivY X Y D).natAbs).length) p34_c2, .slice p34_3 ((words (ivD X Y)).length) p34_c3]) hA rfl rfl rfl (does_loadS hS ExV_isS_48 rfl 0 rfl (cs := [.bool ((rb (ivX X Y D))), .slice p34_1 ((words (ivX X Y D).natAbs).length) p34_c1, .bool ((rb (ivY X Y D))), .slice p34_2 ((words (ivY X Y D).natAbs).length) p34_c2, .slice p34_3 ((words (ivD X Y)).length) p34_c3]) rfl rfl) ?_
  intro a hA
  refine seq_call hA rfl rfl rfl (enters_func  rfl rfl (fun w => by kernel_rfl)) (zsettle_as ⟨(hS.rd 2 rfl), hs35.nil, hs35.cap⟩ ⟨(hS.rd 1 rfl), hs36.nil, hs36.cap⟩ ⟨(hS.rd 0 rfl), hs37.nil, hs37.cap⟩ (set_iv hD9 hX9 hY9 (mk_ne hX9 hY9 (pwR_ne hz N))) (Nat.le_trans (ivX_len lX9 lD9) (by decide)) (Nat.le_trans (ivY_len lY9 lD9) (by decide)) (Nat.le_trans (ivD_len lX9 lY9) (by decide)) (ivD_ne (mk_ne hX9 hY9 (pwR_ne hz N)))) ?_
  rintro _ w45 ⟨p42_1, p42_c1, p42_2, p42_c2, p42_3, p42_c3, p42_4, p42_c4, rfl, hn43, hb44⟩
  replace hS := hS.call hb44
  replace hS := hS.addR hn43.s1.rd
  replace hS := hS.addR hn43.s2.rd
  replace hS := hS.addR hn43.s3.rd
  replace hS := hS.addR hn43.s4.rd
  refine ⟨_, rfl, ?_⟩
  intro a hA
  refine seq_do (v := .agg #[.bool ((ratS (ivR (pwR u v N)).1 (ivR (pwR u v N)).2).1.b1), .slice p42_1 (((ratS (ivR (pwR u v N)).1 (ivR (pwR u v N)).2).1.t1).length) p42_c1, .slice p42_2 (((ratS (ivR (pwR u v N)).1 (ivR (pwR u v N)).2).1.q1).length) p42_c2, .bool ((ratS (ivR (pwR u v N)).1 (ivR (pwR u v N)).2).1.b2), .slice p42_3 (((ratS (ivR (pwR u v N)).1 (ivR (pwR u v N)).2).1.t2).length) p42_c3, .slice p42_4 (((ratS (ivR (pwR u v N)).1 (ivR (pwR u v N)).2).1.q2).length) p42_c4]) hA rfl rfl rfl (does_extract (vs := [.agg #[.bool ((ratS (ivR (pwR u v N)).1 (ivR (pwR u v N)).2).1.b1), .slice p42_1 (((ratS (ivR (pwR u v N)).1 (ivR (pwR u v N)).2).1.t1).length) p42_c1, .slice p42_2 (((ratS (ivR (pwR u v N)).1 (ivR (pwR u v N)).2).1.q1).length) p42_c2, .bool ((ratS (ivR (pwR u v N)).1 (ivR (pwR u v N)).2).1.b2), .slice p42_3 (((ratS (ivR (pwR u v N)).1 (ivR (pwR u v N)).2).1.t2).length) p42_c3, .slice p42_4 (((ratS (ivR (pwR u v N)).1 (ivR (pwR u v N)).2).1.q2).length) p42_c4], .int .i64 ((ratS (ivR (pwR u v N)).1 (ivR (pwR u v N)).2).2)]) rfl rfl) ?_
  intro a hA
  refine seq_do (v := .int .i64 ((ratS (ivR (pwR u v N)).1 (ivR (pwR u v N)).2).2)) hA rfl rfl rfl (does_extract (vs := [.agg #[.bool ((ratS (ivR (pwR u v N)).1 (ivR (pwR u v N)).2).1.b1), .slice p42_1 (((ratS (ivR (pwR u v N)).1 (ivR (pwR u v N)).2).1.t1).length) p42_c1, .slice p42_2 (((ratS (ivR (pwR u v N)).1 (ivR (pwR u v N)).2).1.q1).length) p42_c2, .bool ((ratS (ivR (pwR u v N)).1 (ivR (pwR u v N)).2).1.b2), .slice p42_3 (((ratS (ivR (pwR u v N)).1 (ivR (pwR u v N)).2).1.t2).length) p42_c3, .slice p42_4 (((ratS (ivR (pwR u v N)).1 (ivR (pwR u v N)).2).1.q2).length) p42_c4], .int .i64 ((ratS (ivR (pwR u v N)).1 (ivR (pwR u v N)).2).2)]) rfl rfl) ?_
  intro a hA
  refine seq_store (us := [.bool ((ratS (ivR (pwR u v N)).1 (ivR (pwR u v N)).2).1.b1), .slice p42_1 (((ratS (ivR (pwR u v N)).1 (ivR (pwR u v N)).2).1.t1).length) p42_c1, .slice p42_2 (((ratS (ivR (pwR u v N)).1 (ivR (pwR u v N)).2).1.q1).length) p42_c2, .bool ((ratS (ivR (pwR u v N)).1 (ivR (pwR u v N)).2).1.b2), .slice p42_3 (((ratS (ivR (pwR u v N)).1 (ivR (pwR u v N)).2).1.t2).length) p42_c3, .slice p42_4 (((ratS (ivR (pwR u v N)).1 (ivR (pwR u v N)).2).1.q2).length) p42_c4]) hA hS rfl rfl (sets_store (cs := [.bool ((ratS (ivR (pwR u v N)).1 (ivR (pwR u v N)).2).1.b1), .slice p42_1 (((ratS (ivR (pwR u v N)).1 (ivR (pwR u v N)).2).1.t1).length) p42_c1, .slice p42_2 (((ratS (ivR (pwR u v N)).1 (ivR (pwR u v N)).2).1.q1).length) p42_c2, .bool ((ratS (ivR (pwR u v N)).1 (ivR (pwR u v N)).2).1.b2), .slice p42_3 (((ratS (ivR (pwR u v N)).1 (ivR (pwR u v N)).2).1.t2).length) p42_c3, .slice p42_4 (((ratS (ivR (pwR u v N)).1 (ivR (pwR u v N)).2).1.q2).length) p42_c4]) rfl rfl rfl (by kernel_rfl) hS 1 rfl rfl rfl) 1 rfl rfl rfl rfl ?_
  intro w46 hS
  refine seq_do hA rfl rfl rfl (does_assign rfl) ?_
  intro a hA
  refine seq_end ?_
  refine hK41 _ _ ?_
  refine wp_ret ?_
  refine hret _ _ ?_
  refine ends (v := .tuple #[.agg #[.bool ((ratS (ivR (pwR u v N)).1 (ivR (pwR u v N)).2).1.b1), .slice p42_1 (((ratS (ivR (pwR u v N)).1 (ivR (pwR u v N)).2).1.t1).length) p42_c1, .slice p42_2 (((ratS (ivR (pwR u v N)).1 (ivR (pwR u v N)).2).1.q1).length) p42_c2, .bool ((ratS (ivR (pwR u v N)).1 (ivR (pwR u v N)).2).1.b2), .slice p42_3 (((ratS (ivR (pwR u v N)).1 (ivR (pwR u v N)).2).1.t2).length) p42_c3, .slice p42_4 (((ratS (ivR (pwR u v N)).1 (ivR (pwR u v N)).2).1.q2).length) p42_c4], .int .i64 ((ratS (ivR (pwR u v N)).1 (ivR (pwR u v N)).2).2)]) hA rfl (.cons (res_cell hS ExV_isS_26 rfl 1 rfl (cs := [.bool ((ratS (ivR (pwR u v N)).1 (ivR (pwR u v N)).2).1.b1), .slice p42_1 (((ratS (ivR (pwR u v N)).1 (ivR (pwR u v N)).2).1.t1).length) p42_c1, .slice p42_2 (((ratS (ivR (pwR u v N)).1 (ivR (pwR u v N)).2).1.q1).length) p42_c2, .bool ((ratS (ivR (pwR u v N)).1 (ivR (pwR u v N)).2).1.b2), .slice p42_3 (((ratS (ivR (pwR u v N)).1 (ivR (pwR u v N)).2).1.t2).length) p42_c3, .slice p42_4 (((ratS (ivR (pwR u v N)).1 (ivR (pwR u v N)).2).1.q2).length) p42_c4]) rfl rfl) (.cons (res_tmp rfl) .nil)) rfl ?_
  rw [exptQ_neg hu hv (by omega) h2 hz, if_pos hB]
  exact ⟨p42_1, p42_c1, p42_2, p42_c2, p42_3, p42_c3, p42_4, p42_c4, rfl, ⟨⟨(hS.rd 3 rfl), hn43.s1.nil, hn43.s1.cap⟩, ⟨(hS.rd 2 rfl), hn43.s2.nil, hn43.s2.cap⟩, ⟨(hS.rd 1 rfl), hn43.s3.nil, hn43.s3.cap⟩, ⟨(hS.rd 0 rfl), hn43.s4.nil, hn43.s4.cap⟩⟩, hS.bel⟩
theorem exptMF_any {w : World} {u v : Rat} {a1 a2 a3 a4 : Option Addr} {ac1 ac2 ac3 ac4 : Nat} (ha : Nm w (Q6.rat u v) a1 ac1 a2 ac2 a3 ac3 a4 ac4) (hu : fitR u) (hv : fitR v) {N : Nat} (h1 : 1 ≤ N) (h2 : N ≤ 1024) (hz : ¬ (u = 0 ∧ v = 0)) (hB : pwB u v N = false) : Calls Try.prog 16 #[numV (Q6.rat u v) a1 ac1 a2 ac2 a3 ac3 a4 ac4, .int .i64 (-((N : Nat) : Int))] w (AnsN w (exptQ (Q6.rat u v) (-((N : Nat) : Int)))) := by
  have k1 : (words u.num.natAbs).length ≤ 512 := hu.1
  have k2 : (words v.num.natAbs).length ≤ 512 := hv.1
  have hS : St w w [] [(a4, words v.den), (a3, words v.num.natAbs), (a2, words u.den), (a1, words u.num.natAbs)] [] := ((((St.start w).addR ha.s1.rd).addR ha.s2.rd).addR ha.s3.rd).addR ha.s4.rd
  refine walk_of (l := [(0, .agg #[.bool (rb u.num), .slice a1 ((words u.num.natAbs).length) ac1, .slice a2 ((words u.den).length) ac2, .bool (rb v.num), .slice a3 ((words v.num.natAbs).length) ac3, .slice a4 ((words v.den).length) ac4]), (1, .int .i64 (-((N : Nat) : Int)))]) Try.func16 rfl Try.ntmps16 rfl rfl ?_
  intro Q hret hnorm hP a hA
  refine wp_seq_k (fun K1 hK1 => ?_)
  refine wp_region_lit ?_
  refine seq_new (vs := [.bool (rb u.num), .slice a1 ((words u.num.natAbs).length) ac1, .slice a2 ((words u.den).length) ac2, .bool (rb v.num), .slice a3 ((words v.num.natAbs).length) ac3, .slice a4 ((words v.den).length) ac4]) (t := 26) hA hS rfl rfl rfl (fun g => .pointer (some ⟨g, 0, none⟩)) (does_box rfl rfl) rfl ?_
  intro g2 w3 hS a hA
  refine seq_new (vs := [.bool false, .slice none 0 0, .slice none 0 0, .bool false, .slice none 0 0, .slice none 0 0]) (t := 26) hA hS rfl rfl rfl (fun g => .pointer (some ⟨g, 0, none⟩)) (does_alloc (z := .agg #[.bool false, .slice none 0 0, .slice none 0 0, .bool false, .slice none 0 0, .slice none 0 0]) (by kernel_rfl) rfl) rfl ?_
  intro g4 w5 hS a hA
  refine seq_do hA rfl rfl rfl (does_assign rfl) ?_
  intro a hA
  refine seq_end ?_
  refine hK1 _ _ ?_
  refine wp_seq_k (fun K6 hK6 => ?_)
  refine wp_block ?_
  refine wp_seq_k (fun K7 hK7 => ?_)
  refine wp_region_lit ?_
  refine seq_do (v := .agg #[.bool (rb u.num), .slice a1 ((words u.num.natAbs).length) ac1, .slice a2 ((words u.den).length) ac2, .bool (rb v.num), .slice a3 ((words v.num.natAbs).length) ac3, .slice a4 ((words v.den).length) ac4]) hA rfl rfl rfl (does_loadS hS ExV_isS_26 rfl 1 rfl (cs := [.bool (rb u.num), .slice a1 ((words u.num.natAbs).length) ac1, .slice a2 ((words u.den).length) ac2, .bool (rb v.num), .slice a3 ((words v.num.natAbs).length) ac3, .slice a4 ((words v.den).length) ac4]) rfl rfl) ?_
  intro a hA
  refine seq_call hA rfl rfl rfl (enters_func  rfl rfl (fun w => by kernel_rfl)) (soundQ_any (show Nm _ (Q6.rat u v) a1 ac1 a2 ac2 a3 ac3 a4 ac4 from ⟨⟨(hS.rd 3 rfl), ha.s1.nil, ha.s1.cap⟩, ⟨(hS.rd 2 rfl), ha.s2.nil, ha.s2.cap⟩, ⟨(hS.rd 1 rfl), ha.s3.nil, ha.s3.cap⟩, ⟨(hS.rd 0 rfl), ha.s4.nil, ha.s4.cap⟩⟩) (lenQ_rat hu hv) (soundQ_rat hu hv)) ?_
  rintro _ w9 ⟨rfl, hb8⟩
  replace hS := hS.call hb8
  refine ⟨_, rfl, ?_⟩
  intro a hA
  refine seq_do (v := .bool false) hA rfl rfl rfl (does_un rfl un_not) ?_
  intro a hA
  refine seq_do hA rfl rfl rfl (does_assign rfl) ?_
  intro a hA
  refine seq_end ?_
  refine hK7 _ _ ?_
  refine wp_cond_false (hA.ev rfl) ?_
  refine wp_seq_k (fun K10 hK10 => ?_)
  refine wp_region_lit ?_
  refine seq_do hA rfl rfl rfl (does_move rfl) ?_
  intro a hA
  refine seq_do (v := .bool false) hA rfl rfl rfl (does_bin rfl rfl (fun w => (bin_lss w).trans (by rw [show (decide (-((N : Nat) : Int) < -1024)) = false from (decide_eq_false (by omega))]))) ?_
  intro a hA
  refine seq_do hA rfl rfl rfl (does_move rfl) ?_
  intro a hA
  refine seq_do hA rfl rfl rfl (does_move rfl) ?_
  intro a hA
  refine seq_do (v := .bool false) hA rfl rfl rfl (does_bin rfl rfl (fun w => (bin_gtr w).trans (by rw [show (decide (1024 < -((N : Nat) : Int))) = false from (decide_eq_false (by omega))]))) ?_
  intro a hA
  refine seq_do (v := .bool false) hA rfl rfl rfl (does_pick rfl rfl rfl rfl) ?_
  intro a hA
  refine seq_do hA rfl rfl rfl (does_assign rfl) ?_
  intro a hA
  refine seq_end ?_
  refine hK10 _ _ ?_
  refine wp_cond_false (hA.ev rfl) ?_
  refine wp_seq_k (fun K11 hK11 => ?_)
  refine wp_region_lit ?_
  refine seq_do hA rfl rfl rfl (does_move rfl) ?_
  intro a hA
  refine seq_do (v := .bool false) hA rfl rfl rfl (does_bin rfl rfl (fun w => (bin_eql w).trans (by rw [show ((-((N : Nat) : Int) == 0)) = false from (beq_eq_false_iff_ne.2 (by omega))]))) ?_
  intro a hA
  refine seq_do hA rfl rfl rfl (does_assign rfl) ?_
  intro a hA
  refine seq_end ?_
  refine hK11 _ _ ?_
  refine wp_cond_false (hA.ev rfl) ?_
  refine wp_seq_k (fun K12 hK12 => ?_)
  refine wp_region_lit ?_
  refine seq_do hA rfl rfl rfl (does_move rfl) ?_
  intro a hA
  refine seq_do (v := .bool true) hA rfl rfl rfl (does_bin rfl rfl (fun w => (bin_lss w).trans (by rw [show (decide (-((N : Nat) : Int) < 0)) = true from (decide_eq_true (by omega))]))) ?_
  intro a hA
  refine seq_do hA rfl rfl rfl (does_move rfl) ?_
  intro a hA
  refine seq_do (v := .agg #[.bool (rb u.num), .slice a1 ((words u.num.natAbs).length) ac1, .slice a2 ((words u.den).length) ac2, .bool (rb v.num), .slice a3 ((words v.num.natAbs).length) ac3, .slice a4 ((words v.den).length) ac4]) hA rfl rfl rfl (does_loadS hS ExV_isS_26 rfl 1 rfl (cs := [.bool (rb u.num), .slice a1 ((words u.num.natAbs).length) ac1, .slice a2 ((words u.den).length) ac2, .bool (rb v.num), .slice a3 ((words v.num.natAbs).length) ac3, .slice a4 ((words v.den).length) ac4]) rfl rfl) ?_
  intro a hA
  refine seq_call hA rfl rfl rfl (enters_func  rfl rfl (fun w => by kernel_rfl)) ((show Calls Try.prog 32 #[.agg #[.bool (rb u.num), .slice a1 ((words u.num.natAbs).length) ac1, .slice a2 ((words u.den).length) ac2, .bool (rb v.num), .slice a3 ((words v.num.natAbs).length) ac3, .slice a4 ((words v.den).length) ac4]] _ (fun e w' => e = .returned (.bool false) ∧ _) from (((zero_rat u v).trans (decide_eq_false hz)) ▸ isZero_any (by omega) (by omega)))) ?_
  rintro _ w14 ⟨rfl, hb13⟩
  replace hS := hS.call hb13
  refine ⟨_, rfl, ?_⟩
  intro a hA
  refine seq_do (v := .bool false) hA rfl rfl rfl (does_pick rfl rfl rfl rfl) ?_
  intro a hA
  refine seq_do hA rfl rfl rfl (does_assign rfl) ?_
  intro a hA
  refine seq_end ?_
  refine hK12 _ _ ?_
  refine wp_cond_false (hA.ev rfl) ?_
  refine wp_skip ?_
  refine hK6 _ _ ?_
  refine wp_seq_k (fun K15 hK15 => ?_)
  refine wp_region_lit ?_
  refine seq_do (v := .agg #[.bool (rb u.num), .slice a1 ((words u.num.natAbs).length) ac1, .slice a2 ((words u.den).length) ac2, .bool (rb v.num), .slice a3 ((words v.num.natAbs).length) ac3, .slice a4 ((words v.den).length) ac4]) hA rfl rfl rfl (does_loadS hS ExV_isS_26 rfl 1 rfl (cs := [.bool (rb u.num), .slice a1 ((words u.num.natAbs).length) ac1, .slice a2 ((words u.den).length) ac2, .bool (rb v.num), .slice a3 ((words v.num.natAbs).length) ac3, .slice a4 ((words v.den).length) ac4]) rfl rfl) ?_
  intro a hA
  refine seq_call hA rfl rfl rfl (enters_func  rfl rfl (fun w => by kernel_rfl)) (zspread_any (show Nm _ (Q6.rat u v) a1 ac1 a2 ac2 a3 ac3 a4 ac4 from ⟨⟨(hS.rd 3 rfl), ha.s1.nil, ha.s1.cap⟩, ⟨(hS.rd 2 rfl), ha.s2.nil, ha.s2.cap⟩, ⟨(hS.rd 1 rfl), ha.s3.nil, ha.s3.cap⟩, ⟨(hS.rd 0 rfl), ha.s4.nil, ha.s4.cap⟩⟩) hu hv) ?_
  rintro _ w21 ⟨p16_1, p16_c1, p16_2, p16_c2, p16_3, p16_c3, rfl, hs17, hs18, hs19, hb20⟩
  replace hS := hS.call hb20
  replace hS := hS.addR hs17.rd
  replace hS := hS.addR hs18.rd
  replace hS := hS.addR hs19.rd
  refine ⟨_, rfl, ?_⟩
  intro a hA
  refine seq_do hA rfl rfl rfl (does_move rfl) ?_
  intro a hA
  refine seq_do hA rfl rfl rfl (does_move rfl) ?_
  intro a hA
  refine seq_do (v := .int .i64 (-(-((N : Nat) : Int)))) hA rfl rfl rfl (does_un rfl (un_neg (i64In (by omega) (by omega)))) ?_
  intro a hA
  refine seq_do (v := .int .i64 (((N : Nat) : Int))) hA rfl rfl rfl (does_builtin rfl (run_maxI (by split <;> omega))) ?_
  intro a hA
  refine seq_call hA rfl rfl rfl (enters_func  rfl rfl (fun w => by kernel_rfl)) (zpowerF_any (n := N) ⟨(hS.rd 2 rfl), hs17.nil, hs17.cap⟩ ⟨(hS.rd 1 rfl), hs18.nil, hs18.cap⟩ ⟨(hS.rd 0 rfl), hs19.nil, hs19.cap⟩ (spX_len hu hv) (spY_len hu hv) (spD_len hu hv) (spD_ne u v) (spX_mk u v) (spY_mk u v) hu hv h1 h2 hB) ?_
  rintro _ w23 ⟨rfl, hb22⟩
  replace hS := hS.call hb22
  refine ⟨_, rfl, ?_⟩
  intro a hA
  refine seq_do hA rfl rfl rfl (does_move rfl) ?_
  intro a hA
  refine seq_do (v := .agg #[.bool false, .slice none 0 0, .bool false, .slice none 0 0, .slice none 0 0]) hA rfl rfl rfl (does_extract (vs := [.agg #[.bool false, .slice none 0 0, .bool false, .slice none 0 0, .slice none 0 0], .int .i64 4]) rfl rfl) ?_
  intro a hA
  refine seq_do (v := .int .i64 4) hA rfl rfl rfl (does_extract (vs := [.agg #[.bool false, .slice none 0 0, .bool false, .slice none 0 0, .slice none 0 0], .int .i64 4]) rfl rfl) ?_
  intro a hA
  refine seq_new (vs := [.bool false, .slice none 0 0, .bool false, .slice none 0 0, .slice none 0 0]) (t := 48) hA hS rfl rfl rfl (fun g => .pointer (some ⟨g, 0, none⟩)) (does_alloc (z := .agg #[.bool false, .slice none 0 0, .bool false, .slice none 0 0, .slice none 0 0]) (by kernel_rfl) rfl) rfl ?_
  intro g24 w25 hS a hA
  refine seq_store (us := [.bool false, .slice none 0 0, .bool false, .slice none 0 0, .slice none 0 0]) hA hS rfl rfl (sets_store (cs := [.bool false, .slice none 0 0, .bool false, .slice none 0 0, .slice none 0 0]) rfl rfl rfl (by kernel_rfl) hS 0 rfl rfl rfl) 0 rfl rfl rfl rfl ?_
  intro w26 hS
  refine seq_do hA rfl rfl rfl (does_assign rfl) ?_
  intro a hA
  refine seq_end ?_
  refine hK15 _ _ ?_
  refine wp_seq_k (fun K27 hK27 => ?_)
  refine wp_seq_k (fun K28 hK28 => ?_)
  refine wp_region_lit ?_
  refine seq_do hA rfl rfl rfl (does_move rfl) ?_
  intro a hA
  refine seq_do (v := .bool true) hA rfl rfl rfl (does_bin rfl rfl (fun w => by kernel_rfl)) ?_
  intro a hA
  refine seq_end ?_
  refine hK28 _ _ ?_
  refine wp_cond_true (hA.ev rfl) ?_
  refine wp_seq_k (fun K29 hK29 => ?_)
  refine wp_region_lit ?_
  refine seq_do (v := .agg #[.bool false, .slice none 0 0, .slice none 0 0, .bool false, .slice none 0 0, .slice none 0 0]) hA rfl rfl rfl (does_build rfl (fun w => by kernel_rfl)) ?_
  intro a hA
  refine seq_do hA rfl rfl rfl (does_move rfl) ?_
  intro a hA
  refine seq_store (us := [.bool false, .slice none 0 0, .slice none 0 0, .bool false, .slice none 0 0, .slice none 0 0]) hA hS rfl rfl (sets_store (cs := [.bool false, .slice none 0 0, .slice none 0 0, .bool false, .slice none 0 0, .slice none 0 0]) rfl rfl rfl (by kernel_rfl) hS 1 rfl rfl rfl) 1 rfl rfl rfl rfl ?_
  intro w30 hS
  refine seq_do hA rfl rfl rfl (does_assign rfl) ?_
  intro a hA
  refine seq_end ?_
  refine hK29 _ _ ?_
  refine wp_ret ?_
  refine hret _ _ ?_
  refine ends (v := .tuple #[.agg #[.bool false, .slice none 0 0, .slice none 0 0, .bool false, .slice none 0 0, .slice none 0 0], .int .i64 4]) hA rfl (.cons (res_cell hS ExV_isS_26 rfl 1 rfl (cs := [.bool false, .slice none 0 0, .slice none 0 0, .bool false, .slice none 0 0, .slice none 0 0]) rfl rfl) (.cons (res_tmp rfl) .nil)) rfl ?_
  rw [exptQ_neg hu hv (by omega) h2 hz, if_neg (by rw [hB]; decide)]
  exact ⟨none, 0, none, 0, none, 0, none, 0, rfl, ⟨(Sc.none _), (Sc.none _), (Sc.none _), (Sc.none _)⟩, hS.bel⟩
theorem exptQ_any {w : World} {q : Q6} {a1 a2 a3 a4 : Option Addr} {ac1 ac2 ac3 ac4 : Nat} (ha : Nm w q a1 ac1 a2 ac2 a3 ac3 a4 ac4) (hl : LenQ q) {n : Int} : Calls Try.prog 16 #[numV q a1 ac1 a2 ac2 a3 ac3 a4 ac4, .int .i64 n] w (AnsN w (exptQ q n)) := by
  rcases sound_cases ha with hs | ⟨u, v, rfl, hu, hv⟩
  · exact exptE_any ha hl hs
  by_cases n1 : n < -1024
  · exact exptA1_any ha hu hv n1
  by_cases n2 : 1024 < n
  · exact exptA2_any ha hu hv n2
  by_cases n3 : n = 0
  · subst n3
    exact expt0_any ha hu hv
  by_cases n4 : n < 0
  · obtain ⟨N, rfl⟩ : ∃ N : Nat, n = -(N : Int) := ⟨n.natAbs, by omega⟩
    by_cases hz : u = 0 ∧ v = 0
    · exact exptZ_any ha hu hv (by omega) (by omega) hz
    · cases hB : pwB u v N with
      | true => exact exptMT_any ha hu hv (by omega) (by omega) hz hB
      | false => exact exptMF_any ha hu hv (by omega) (by omega) hz hB
  · obtain ⟨N, rfl⟩ : ∃ N : Nat, n = (N : Int) := ⟨n.natAbs, by omega⟩
    cases hB : pwB u v N with
    | true => exact exptPT_any ha hu hv (by omega) (by omega) hB
    | false => exact exptPF_any ha hu hv (by omega) (by omega) hB
theorem exptQ_as {w : World} {q : Q6} {a1 a2 a3 a4 : Option Addr} {ac1 ac2 ac3 ac4 : Nat} (ha : Nm w q a1 ac1 a2 ac2 a3 ac3 a4 ac4) (hl : LenQ q) {n : Int} {z : Q6 × Int} (hz : exptQ q n = z) : Calls Try.prog 16 #[numV q a1 ac1 a2 ac2 a3 ac3 a4 ac4, .int .i64 n] w (AnsN w z) := hz ▸ exptQ_any ha hl
end Go.Proofs.Ytmibkfihcihphaa
