/- Walks of Add, Sub, Mul, Div. Operators on texts. Walks of the text of minus three halves, and of the fixed fact. The numbers are a field. Walks of the law of the field. Numbers that come in as arguments. -/
import Derived.Test.YtoafphdjdgaonaaPexactf10b
import Derived.Test.YtoafphdjdgaonaaTxtD
import Derived.Test.YtoafphdjdgaonaaPexactf10a
import Derived.Test.YtoafphdjdgaonaaArgs
import Derived.WalkKit
import Derived.ProofKit
import Derived.OpenShut
import Derived.ChangeOld
import Derived.Lib.SmallJoins
import Derived.Deep.Strs
namespace Go.Proofs.Ytoafphdjdgaonaa
open Go.RowKit
set_option linter.unusedVariables false
set_option linter.unusedSimpArgs false
set_option maxRecDepth 100000
theorem ExL_isS_26 : IsS Try.prog 26 6 := ⟨⟨_, Try.underlying26⟩, by kernel_rfl⟩
theorem neg_len {x : Int} {k : Nat} (h : (words x.natAbs).length ≤ k) : (words (-x).natAbs).length ≤ k := by rw [Int.natAbs_neg]; exact h
theorem reckonE1_any {F : FuncId} {w : World} {p q : Q6} {a1 a2 a3 a4 : Option Addr} {ac1 ac2 ac3 ac4 : Nat} (ha : Nm w p a1 ac1 a2 ac2 a3 ac3 a4 ac4) (hl : LenQ p) {u1 u2 u3 u4 : Option Addr} {uc1 uc2 uc3 uc4 : Nat} (hb : Nm w q u1 uc1 u2 uc2 u3 uc3 u4 uc4) (hm : LenQ q) (h1 : soundQ p = false) : Calls Try.prog 29 #[.func (.func F) #[] #[], numV p a1 ac1 a2 ac2 a3 ac3 a4 ac4, numV q u1 uc1 u2 uc2 u3 uc3 u4 uc4] w (AnsN w (Q6.zero, 2)) := by
  have hS : St w w [] [(u4, q.q2), (u3, q.t2), (u2, q.q1), (u1, q.t1), (a4, p.q2), (a3, p.t2), (a2, p.q1), (a1, p.t1)] [] := ((((((((St.start w).addR ha.s1.rd).addR ha.s2.rd).addR ha.s3.rd).addR ha.s4.rd).addR hb.s1.rd).addR hb.s2.rd).addR hb.s3.rd).addR hb.s4.rd
  refine walk_of (l := [(0, .func (.func F) #[] #[]), (1, .agg #[.bool p.b1, .slice a1 p.t1.length ac1, .slice a2 p.q1.length ac2, .bool p.b2, .slice a3 p.t2.length ac3, .slice a4 p.q2.length ac4]), (2, .agg #[.bool q.b1, .slice u1 q.t1.length uc1, .slice u2 q.q1.length uc2, .bool q.b2, .slice u3 q.t2.length uc3, .slice u4 q.q2.length uc4])]) Try.func29 rfl Try.ntmps29 rfl rfl ?_
  intro Q hret hnorm hP a hA
  refine wp_seq_k (fun K1 hK1 => ?_)
  refine wp_region_lit ?_
  refine seq_new (vs := [.bool p.b1, .slice a1 p.t1.length ac1, .slice a2 p.q1.length ac2, .bool p.b2, .slice a3 p.t2.length ac3, .slice a4 p.q2.length ac4]) (t := 26) hA hS rfl rfl rfl (fun g => .pointer (some ⟨g, 0, none⟩)) (does_box rfl rfl) rfl ?_
  intro g2 w3 hS a hA
  refine seq_new (vs := [.bool q.b1, .slice u1 q.t1.length uc1, .slice u2 q.q1.length uc2, .bool q.b2, .slice u3 q.t2.length uc3, .slice u4 q.q2.length uc4]) (t := 26) hA hS rfl rfl rfl (fun g => .pointer (some ⟨g, 0, none⟩)) (does_box rfl rfl) rfl ?_
  intro g4 w5 hS a hA
  refine seq_new (vs := [.bool false, .slice none 0 0, .slice none 0 0, .bool false, .slice none 0 0, .slice none 0 0]) (t := 26) hA hS rfl rfl rfl (fun g => .pointer (some ⟨g, 0, none⟩)) (does_alloc (z := .agg #[.bool false, .slice none 0 0, .slice none 0 0, .bool false, .slice none 0 0, .slice none 0 0]) (by kernel_rfl) rfl) rfl ?_
  intro g6 w7 hS a hA
  refine seq_do hA rfl rfl rfl (does_assign rfl) ?_
  intro a hA
  refine seq_end ?_
  refine hK1 _ _ ?_
  refine wp_seq_k (fun K8 hK8 => ?_)
  refine wp_seq_k (fun K9 hK9 => ?_)
  refine wp_region_lit ?_
  refine seq_do (v := .agg #[.bool p.b1, .slice a1 p.t1.length ac1, .slice a2 p.q1.length ac2, .bool p.b2, .slice a3 p.t2.length ac3, .slice a4 p.q2.length ac4]) hA rfl rfl rfl (does_loadS hS ExL_isS_26 rfl 2 rfl (cs := [.bool p.b1, .slice a1 p.t1.length ac1, .slice a2 p.q1.length ac2, .bool p.b2, .slice a3 p.t2.length ac3, .slice a4 p.q2.length ac4]) rfl rfl) ?_
  intro a hA
  refine seq_call hA rfl rfl rfl (enters_func  rfl rfl (fun w => by kernel_rfl)) (soundQ_any (show Nm _ p a1 ac1 a2 ac2 a3 ac3 a4 ac4 from ⟨⟨(hS.rd 7 rfl), ha.s1.nil, ha.s1.cap⟩, ⟨(hS.rd 6 rfl), ha.s2.nil, ha.s2.cap⟩, ⟨(hS.rd 5 rfl), ha.s3.nil, ha.s3.cap⟩, ⟨(hS.rd 4 rfl), ha.s4.nil, ha.s4.cap⟩⟩) hl h1) ?_
  rintro _ w11 ⟨rfl, hb10⟩
  replace hS := hS.call hb10
  refine ⟨_, rfl, ?_⟩
  intro a hA
  refine seq_do (v := .bool true) hA rfl rfl rfl (does_un rfl un_not) ?_
  intro a hA
  refine seq_do hA rfl rfl rfl (does_move rfl) ?_
  intro a hA
  refine seq_skip hA rfl rfl rfl ?_
  intro a hA
  refine seq_skip hA rfl rfl rfl ?_
  intro a hA
  refine seq_skip hA rfl rfl rfl ?_
  intro a hA
  refine seq_do (v := .bool true) hA rfl rfl rfl (does_pick rfl rfl rfl rfl) ?_
  intro a hA
  refine seq_end ?_
  refine hK9 _ _ ?_
  refine wp_cond_true (hA.ev rfl) ?_
  refine wp_seq_k (fun K12 hK12 => ?_)
  refine wp_region_lit ?_
  refine seq_do (v := .agg #[.bool false, .slice none 0 0, .slice none 0 0, .bool false, .slice none 0 0, .slice none 0 0]) hA rfl rfl rfl (does_build rfl (fun w => by kernel_rfl)) ?_
  intro a hA
  refine seq_store (us := [.bool false, .slice none 0 0, .slice none 0 0, .bool false, .slice none 0 0, .slice none 0 0]) hA hS rfl rfl (sets_store (cs := [.bool false, .slice none 0 0, .slice none 0 0, .bool false, .slice none 0 0, .slice none 0 0]) rfl rfl rfl (by kernel_rfl) hS 0 rfl rfl rfl) 0 rfl rfl rfl rfl ?_
  intro w13 hS
  refine seq_do hA rfl rfl rfl (does_assign rfl) ?_
  intro a hA
  refine seq_end ?_
  refine hK12 _ _ ?_
  refine wp_ret ?_
  refine hret _ _ ?_
  refine ends (v := .tuple #[.agg #[.bool false, .slice none 0 0, .slice none 0 0, .bool false, .slice none 0 0, .slice none 0 0], .int .i64 2]) hA rfl (.cons (res_cell hS ExL_isS_26 rfl 0 rfl (cs := [.bool false, .slice none 0 0, .slice none 0 0, .bool false, .slice none 0 0, .slice none 0 0]) rfl rfl) (.cons (res_tmp rfl) .nil)) rfl ?_
  exact ⟨none, 0, none, 0, none, 0, none, 0, rfl, ⟨(Sc.none _), (Sc.none _), (Sc.none _), (Sc.none _)⟩, hS.bel⟩
theorem reckonE2_any {F : FuncId} {w : World} {p q : Q6} {a1 a2 a3 a4 : Option Addr} {ac1 ac2 ac3 ac4 : Nat} (ha : Nm w p a1 ac1 a2 ac2 a3 ac3 a4 ac4) (hl : LenQ p) {u1 u2 u3 u4 : Option Addr} {uc1 uc2 uc3 uc4 : Nat} (hb : Nm w q u1 uc1 u2 uc2 u3 uc3 u4 uc4) (hm : LenQ q) (h1 : soundQ p = true) (h2 : soundQ q = false) : Calls Try.prog 29 #[.func (.func F) #[] #[], numV p a1 ac1 a2 ac2 a3 ac3 a4 ac4, numV q u1 uc1 u2 uc2 u3 uc3 u4 uc4] w (AnsN w (Q6.zero, 2)) := by
  have hS : St w w [] [(u4, q.q2), (u3, q.t2), (u2, q.q1), (u1, q.t1), (a4, p.q2), (a3, p.t2), (a2, p.q1), (a1, p.t1)] [] := ((((((((St.start w).addR ha.s1.rd).addR ha.s2.rd).addR ha.s3.rd).addR ha.s4.rd).addR hb.s1.rd).addR hb.s2.rd).addR hb.s3.rd).addR hb.s4.rd
  refine walk_of (l := [(0, .func (.func F) #[] #[]), (1, .agg #[.bool p.b1, .slice a1 p.t1.length ac1, .slice a2 p.q1.length ac2, .bool p.b2, .slice a3 p.t2.length ac3, .slice a4 p.q2.length ac4]), (2, .agg #[.bool q.b1, .slice u1 q.t1.length uc1, .slice u2 q.q1.length uc2, .bool q.b2, .slice u3 q.t2.length uc3, .slice u4 q.q2.length uc4])]) Try.func29 rfl Try.ntmps29 rfl rfl ?_
  intro Q hret hnorm hP a hA
  refine wp_seq_k (fun K1 hK1 => ?_)
  refine wp_region_lit ?_
  refine seq_new (vs := [.bool p.b1, .slice a1 p.t1.length ac1, .slice a2 p.q1.length ac2, .bool p.b2, .slice a3 p.t2.length ac3, .slice a4 p.q2.length ac4]) (t := 26) hA hS rfl rfl rfl (fun g => .pointer (some ⟨g, 0, none⟩)) (does_box rfl rfl) rfl ?_
  intro g2 w3 hS a hA
  refine seq_new (vs := [.bool q.b1, .slice u1 q.t1.length uc1, .slice u2 q.q1.length uc2, .bool q.b2, .slice u3 q.t2.length uc3, .slice u4 q.q2.length uc4]) (t := 26) hA hS rfl rfl rfl (fun g => .pointer (some ⟨g, 0, none⟩)) (does_box rfl rfl) rfl ?_
  intro g4 w5 hS a hA
  refine seq_new (vs := [.bool false, .slice none 0 0, .slice none 0 0, .bool false, .slice none 0 0, .slice none 0 0]) (t := 26) hA hS rfl rfl rfl (fun g => .pointer (some ⟨g, 0, none⟩)) (does_alloc (z := .agg #[.bool false, .slice none 0 0, .slice none 0 0, .bool false, .slice none 0 0, .slice none 0 0]) (by kernel_rfl) rfl) rfl ?_
  intro g6 w7 hS a hA
  refine seq_do hA rfl rfl rfl (does_assign rfl) ?_
  intro a hA
  refine seq_end ?_
  refine hK1 _ _ ?_
  refine wp_seq_k (fun K8 hK8 => ?_)
  refine wp_seq_k (fun K9 hK9 => ?_)
  refine wp_region_lit ?_
  refine seq_do (v := .agg #[.bool p.b1, .slice a1 p.t1.length ac1, .slice a2 p.q1.length ac2, .bool p.b2, .slice a3 p.t2.length ac3, .slice a4 p.q2.length ac4]) hA rfl rfl rfl (does_loadS hS ExL_isS_26 rfl 2 rfl (cs := [.bool p.b1, .slice a1 p.t1.length ac1, .slice a2 p.q1.length ac2, .bool p.b2, .slice a3 p.t2.length ac3, .slice a4 p.q2.length ac4]) rfl rfl) ?_
  intro a hA
  refine seq_call hA rfl rfl rfl (enters_func  rfl rfl (fun w => by kernel_rfl)) (soundQ_any (show Nm _ p a1 ac1 a2 ac2 a3 ac3 a4 ac4 from ⟨⟨(hS.rd 7 rfl), ha.s1.nil, ha.s1.cap⟩, ⟨(hS.rd 6 rfl), ha.s2.nil, ha.s2.cap⟩, ⟨(hS.rd 5 rfl), ha.s3.nil, ha.s3.cap⟩, ⟨(hS.rd 4 rfl), ha.s4.nil, ha.s4.cap⟩⟩) hl h1) ?_
  rintro _ w11 ⟨rfl, hb10⟩
  replace hS := hS.call hb10
  refine ⟨_, rfl, ?_⟩
  intro a hA
  refine seq_do (v := .bool false) hA rfl rfl rfl (does_un rfl un_not) ?_
  intro a hA
  refine seq_do hA rfl rfl rfl (does_move rfl) ?_
  intro a hA
  refine seq_do (v := .agg #[.bool q.b1, .slice u1 q.t1.length uc1, .slice u2 q.q1.length uc2, .bool q.b2, .slice u3 q.t2.length uc3, .slice u4 q.q2.length uc4]) hA rfl rfl rfl (does_loadS hS ExL_isS_26 rfl 1 rfl (cs := [.bool q.b1, .slice u1 q.t1.length uc1, .slice u2 q.q1.length uc2, .bool q.b2, .slice u3 q.t2.length uc3, .slice u4 q.q2.length uc4]) rfl rfl) ?_
  intro a hA
  refine seq_call hA rfl rfl rfl (enters_func  rfl rfl (fun w => by kernel_rfl)) (soundQ_any (show Nm _ q u1 uc1 u2 uc2 u3 uc3 u4 uc4 from ⟨⟨(hS.rd 3 rfl), hb.s1.nil, hb.s1.cap⟩, ⟨(hS.rd 2 rfl), hb.s2.nil, hb.s2.cap⟩, ⟨(hS.rd 1 rfl), hb.s3.nil, hb.s3.cap⟩, ⟨(hS.rd 0 rfl), hb.s4.nil, hb.s4.cap⟩⟩) hm h2) ?_
  rintro _ w13 ⟨rfl, hb12⟩
  replace hS := hS.call hb12
  refine ⟨_, rfl, ?_⟩
  intro a hA
  refine seq_do (v := .bool true) hA rfl rfl rfl (does_un rfl un_not) ?_
  intro a hA
  refine seq_do (v := .bool true) hA rfl rfl rfl (does_pick rfl rfl rfl rfl) ?_
  intro a hA
  refine seq_end ?_
  refine hK9 _ _ ?_
  refine wp_cond_true (hA.ev rfl) ?_
  refine wp_seq_k (fun K14 hK14 => ?_)
  refine wp_region_lit ?_
  refine seq_do (v := .agg #[.bool false, .slice none 0 0, .slice none 0 0, .bool false, .slice none 0 0, .slice none 0 0]) hA rfl rfl rfl (does_build rfl (fun w => by kernel_rfl)) ?_
  intro a hA
  refine seq_store (us := [.bool false, .slice none 0 0, .slice none 0 0, .bool false, .slice none 0 0, .slice none 0 0]) hA hS rfl rfl (sets_store (cs := [.bool false, .slice none 0 0, .slice none 0 0, .bool false, .slice none 0 0, .slice none 0 0]) rfl rfl rfl (by kernel_rfl) hS 0 rfl rfl rfl) 0 rfl rfl rfl rfl ?_
  intro w15 hS
  refine seq_do hA rfl rfl rfl (does_assign rfl) ?_
  intro a hA
  refine seq_end ?_
  refine hK14 _ _ ?_
  refine wp_ret ?_
  refine hret _ _ ?_
  refine ends (v := .tuple #[.agg #[.bool false, .slice none 0 0, .slice none 0 0, .bool false, .slice none 0 0, .slice none 0 0], .int .i64 2]) hA rfl (.cons (res_cell hS ExL_isS_26 rfl 0 rfl (cs := [.bool false, .slice none 0 0, .slice none 0 0, .bool false, .slice none 0 0, .slice none 0 0]) rfl rfl) (.cons (res_tmp rfl) .nil)) rfl ?_
  exact ⟨none, 0, none, 0, none, 0, none, 0, rfl, ⟨(Sc.none _), (Sc.none _), (Sc.none _), (Sc.none _)⟩, hS.bel⟩
theorem divE1_any {w : World} {p q : Q6} {a1 a2 a3 a4 : Option Addr} {ac1 ac2 ac3 ac4 : Nat} (ha : Nm w p a1 ac1 a2 ac2 a3 ac3 a4 ac4) (hl : LenQ p) {u1 u2 u3 u4 : Option Addr} {uc1 uc2 uc3 uc4 : Nat} (hb : Nm w q u1 uc1 u2 uc2 u3 uc3 u4 uc4) (hm : LenQ q) (h1 : soundQ p = false) : Calls Try.prog 14 #[numV p a1 ac1 a2 ac2 a3 ac3 a4 ac4, numV q u1 uc1 u2 uc2 u3 uc3 u4 uc4] w (AnsN w (Q6.zero, 2)) := by
  have hS : St w w [] [(u4, q.q2), (u3, q.t2), (u2, q.q1), (u1, q.t1), (a4, p.q2), (a3, p.t2), (a2, p.q1), (a1, p.t1)] [] := ((((((((St.start w).addR ha.s1.rd).addR ha.s2.rd).addR ha.s3.rd).addR ha.s4.rd).addR hb.s1.rd).addR hb.s2.rd).addR hb.s3.rd).addR hb.s4.rd
  refine walk_of (l := [(0, .agg #[.bool p.b1, .slice a1 p.t1.length ac1, .slice a2 p.q1.length ac2, .bool p.b2, .slice a3 p.t2.length ac3, .slice a4 p.q2.length ac4]), (1, .agg #[.bool q.b1, .slice u1 q.t1.length uc1, .slice u2 q.q1.length uc2, .bool q.b2, .slice u3 q.t2.length uc3, .slice u4 q.q2.length uc4])]) Try.func14 rfl Try.ntmps14 rfl rfl ?_
  intro Q hret hnorm hP a hA
  refine wp_seq_k (fun K1 hK1 => ?_)
  refine wp_region_lit ?_
  refine seq_new (vs := [.bool p.b1, .slice a1 p.t1.length ac1, .slice a2 p.q1.length ac2, .bool p.b2, .slice a3 p.t2.length ac3, .slice a4 p.q2.length ac4]) (t := 26) hA hS rfl rfl rfl (fun g => .pointer (some ⟨g, 0, none⟩)) (does_box rfl rfl) rfl ?_
  intro g2 w3 hS a hA
  refine seq_new (vs := [.bool q.b1, .slice u1 q.t1.length uc1, .slice u2 q.q1.length uc2, .bool q.b2, .slice u3 q.t2.length uc3, .slice u4 q.q2.length uc4]) (t := 26) hA hS rfl rfl rfl (fun g => .pointer (some ⟨g, 0, none⟩)) (does_box rfl rfl) rfl ?_
  intro g4 w5 hS a hA
  refine seq_new (vs := [.bool false, .slice none 0 0, .slice none 0 0, .bool false, .slice none 0 0, .slice none 0 0]) (t := 26) hA hS rfl rfl rfl (fun g => .pointer (some ⟨g, 0, none⟩)) (does_alloc (z := .agg #[.bool false, .slice none 0 0, .slice none 0 0, .bool false, .slice none 0 0, .slice none 0 0]) (by kernel_rfl) rfl) rfl ?_
  intro g6 w7 hS a hA
  refine seq_do hA rfl rfl rfl (does_assign rfl) ?_
  intro a hA
  refine seq_end ?_
  refine hK1 _ _ ?_
  refine wp_seq_k (fun K8 hK8 => ?_)
  refine wp_seq_k (fun K9 hK9 => ?_)
  refine wp_region_lit ?_
  refine seq_do (v := .agg #[.bool p.b1, .slice a1 p.t1.length ac1, .slice a2 p.q1.length ac2, .bool p.b2, .slice a3 p.t2.length ac3, .slice a4 p.q2.length ac4]) hA rfl rfl rfl (does_loadS hS ExL_isS_26 rfl 2 rfl (cs := [.bool p.b1, .slice a1 p.t1.length ac1, .slice a2 p.q1.length ac2, .bool p.b2, .slice a3 p.t2.length ac3, .slice a4 p.q2.length ac4]) rfl rfl) ?_
  intro a hA
  refine seq_call hA rfl rfl rfl (enters_func  rfl rfl (fun w => by kernel_rfl)) (soundQ_any (show Nm _ p a1 ac1 a2 ac2 a3 ac3 a4 ac4 from ⟨⟨(hS.rd 7 rfl), ha.s1.nil, ha.s1.cap⟩, ⟨(hS.rd 6 rfl), ha.s2.nil, ha.s2.cap⟩, ⟨(hS.rd 5 rfl), ha.s3.nil, ha.s3.cap⟩, ⟨(hS.rd 4 rfl), ha.s4.nil, ha.s4.cap⟩⟩) hl h1) ?_
  rintro _ w11 ⟨rfl, hb10⟩
  replace hS := hS.call hb10
  refine ⟨_, rfl, ?_⟩
  intro a hA
  refine seq_do (v := .bool true) hA rfl rfl rfl (does_un rfl un_not) ?_
  intro a hA
  refine seq_do hA rfl rfl rfl (does_move rfl) ?_
  intro a hA
  refine seq_skip hA rfl rfl rfl ?_
  intro a hA
  refine seq_skip hA rfl rfl rfl ?_
  intro a hA
  refine seq_skip hA rfl rfl rfl ?_
  intro a hA
  refine seq_do (v := .bool true) hA rfl rfl rfl (does_pick rfl rfl rfl rfl) ?_
  intro a hA
  refine seq_end ?_
  refine hK9 _ _ ?_
  refine wp_cond_true (hA.ev rfl) ?_
  refine wp_seq_k (fun K12 hK12 => ?_)
  refine wp_region_lit ?_
  refine seq_do (v := .agg #[.bool false, .slice none 0 0, .slice none 0 0, .bool false, .slice none 0 0, .slice none 0 0]) hA rfl rfl rfl (does_build rfl (fun w => by kernel_rfl)) ?_
  intro a hA
  refine seq_store (us := [.bool false, .slice none 0 0, .slice none 0 0, .bool false, .slice none 0 0, .slice none 0 0]) hA hS rfl rfl (sets_store (cs := [.bool false, .slice none 0 0, .slice none 0 0, .bool false, .slice none 0 0, .slice none 0 0]) rfl rfl rfl (by kernel_rfl) hS 0 rfl rfl rfl) 0 rfl rfl rfl rfl ?_
  intro w13 hS
  refine seq_do hA rfl rfl rfl (does_assign rfl) ?_
  intro a hA
  refine seq_end ?_
  refine hK12 _ _ ?_
  refine wp_ret ?_
  refine hret _ _ ?_
  refine ends (v := .tuple #[.agg #[.bool false, .slice none 0 0, .slice none 0 0, .bool false, .slice none 0 0, .slice none 0 0], .int .i64 2]) hA rfl (.cons (res_cell hS ExL_isS_26 rfl 0 rfl (cs := [.bool false, .slice none 0 0, .slice none 0 0, .bool false, .slice none 0 0, .slice none 0 0]) rfl rfl) (.cons (res_tmp rfl) .nil)) rfl ?_
  exact ⟨none, 0, none, 0, none, 0, none, 0, rfl, ⟨(Sc.none _), (Sc.none _), (Sc.none _), (Sc.none _)⟩, hS.bel⟩
theorem divE2_any {w : World} {p q : Q6} {a1 a2 a3 a4 : Option Addr} {ac1 ac2 ac3 ac4 : Nat} (ha : Nm w p a1 ac1 a2 ac2 a3 ac3 a4 ac4) (hl : LenQ p) {u1 u2 u3 u4 : Option Addr} {uc1 uc2 uc3 uc4 : Nat} (hb : Nm w q u1 uc1 u2 uc2 u3 uc3 u4 uc4) (hm : LenQ q) (h1 : soundQ p = true) (h2 : soundQ q = false) : Calls Try.prog 14 #[numV p a1 ac1 a2 ac2 a3 ac3 a4 ac4, numV q u1 uc1 u2 uc2 u3 uc3 u4 uc4] w (AnsN w (Q6.zero, 2)) := by
  have hS : St w w [] [(u4, q.q2), (u3, q.t2), (u2, q.q1), (u1, q.t1), (a4, p.q2), (a3, p.t2), (a2, p.q1), (a1, p.t1)] [] := ((((((((St.start w).addR ha.s1.rd).addR ha.s2.rd).addR ha.s3.rd).addR ha.s4.rd).addR hb.s1.rd).addR hb.s2.rd).addR hb.s3.rd).addR hb.s4.rd
  refine walk_of (l := [(0, .agg #[.bool p.b1, .slice a1 p.t1.length ac1, .slice a2 p.q1.length ac2, .bool p.b2, .slice a3 p.t2.length ac3, .slice a4 p.q2.length ac4]), (1, .agg #[.bool q.b1, .slice u1 q.t1.length uc1, .slice u2 q.q1.length uc2, .bool q.b2, .slice u3 q.t2.length uc3, .slice u4 q.q2.length uc4])]) Try.func14 rfl Try.ntmps14 rfl rfl ?_
  intro Q hret hnorm hP a hA
  refine wp_seq_k (fun K1 hK1 => ?_)
  refine wp_region_lit ?_
  refine seq_new (vs := [.bool p.b1, .slice a1 p.t1.length ac1, .slice a2 p.q1.length ac2, .bool p.b2, .slice a3 p.t2.length ac3, .slice a4 p.q2.length ac4]) (t := 26) hA hS rfl rfl rfl (fun g => .pointer (some ⟨g, 0, none⟩)) (does_box rfl rfl) rfl ?_
  intro g2 w3 hS a hA
  refine seq_new (vs := [.bool q.b1, .slice u1 q.t1.length uc1, .slice u2 q.q1.length uc2, .bool q.b2, .slice u3 q.t2.length uc3, .slice u4 q.q2.length uc4]) (t := 26) hA hS rfl rfl rfl (fun g => .pointer (some ⟨g, 0, none⟩)) (does_box rfl rfl) rfl ?_
  intro g4 w5 hS a hA
  refine seq_new (vs := [.bool false, .slice none 0 0, .slice none 0 0, .bool false, .slice none 0 0, .slice none 0 0]) (t := 26) hA hS rfl rfl rfl (fun g => .pointer (some ⟨g, 0, none⟩)) (does_alloc (z := .agg #[.bool false, .slice none 0 0, .slice none 0 0, .bool false, .slice none 0 0, .slice none 0 0]) (by kernel_rfl) rfl) rfl ?_
  intro g6 w7 hS a hA
  refine seq_do hA rfl rfl rfl (does_assign rfl) ?_
  intro a hA
  refine seq_end ?_
  refine hK1 _ _ ?_
  refine wp_seq_k (fun K8 hK8 => ?_)
  refine wp_seq_k (fun K9 hK9 => ?_)
  refine wp_region_lit ?_
  refine seq_do (v := .agg #[.bool p.b1, .slice a1 p.t1.length ac1, .slice a2 p.q1.length ac2, .bool p.b2, .slice a3 p.t2.length ac3, .slice a4 p.q2.length ac4]) hA rfl rfl rfl (does_loadS hS ExL_isS_26 rfl 2 rfl (cs := [.bool p.b1, .slice a1 p.t1.length ac1, .slice a2 p.q1.length ac2, .bool p.b2, .slice a3 p.t2.length ac3, .slice a4 p.q2.length ac4]) rfl rfl) ?_
  intro a hA
  refine seq_call hA rfl rfl rfl (enters_func  rfl rfl (fun w => by kernel_rfl)) (soundQ_any (show Nm _ p a1 ac1 a2 ac2 a3 ac3 a4 ac4 from ⟨⟨(hS.rd 7 rfl), ha.s1.nil, ha.s1.cap⟩, ⟨(hS.rd 6 rfl), ha.s2.nil, ha.s2.cap⟩, ⟨(hS.rd 5 rfl), ha.s3.nil, ha.s3.cap⟩, ⟨(hS.rd 4 rfl), ha.s4.nil, ha.s4.cap⟩⟩) hl h1) ?_
  rintro _ w11 ⟨rfl, hb10⟩
  replace hS := hS.call hb10
  refine ⟨_, rfl, ?_⟩
  intro a hA
  refine seq_do (v := .bool false) hA rfl rfl rfl (does_un rfl un_not) ?_
  intro a hA
  refine seq_do hA rfl rfl rfl (does_move rfl) ?_
  intro a hA
  refine seq_do (v := .agg #[.bool q.b1, .slice u1 q.t1.length uc1, .slice u2 q.q1.length uc2, .bool q.b2, .slice u3 q.t2.length uc3, .slice u4 q.q2.length uc4]) hA rfl rfl rfl (does_loadS hS ExL_isS_26 rfl 1 rfl (cs := [.bool q.b1, .slice u1 q.t1.length uc1, .slice u2 q.q1.length uc2, .bool q.b2, .slice u3 q.t2.length uc3, .slice u4 q.q2.length uc4]) rfl rfl) ?_
  intro a hA
  refine seq_call hA rfl rfl rfl (enters_func  rfl rfl (fun w => by kernel_rfl)) (soundQ_any (show Nm _ q u1 uc1 u2 uc2 u3 uc3 u4 uc4 from ⟨⟨(hS.rd 3 rfl), hb.s1.nil, hb.s1.cap⟩, ⟨(hS.rd 2 rfl), hb.s2.nil, hb.s2.cap⟩, ⟨(hS.rd 1 rfl), hb.s3.nil, hb.s3.cap⟩, ⟨(hS.rd 0 rfl), hb.s4.nil, hb.s4.cap⟩⟩) hm h2) ?_
  rintro _ w13 ⟨rfl, hb12⟩
  replace hS := hS.call hb12
  refine ⟨_, rfl, ?_⟩
  intro a hA
  refine seq_do (v := .bool true) hA rfl rfl rfl (does_un rfl un_not) ?_
  intro a hA
  refine seq_do (v := .bool true) hA rfl rfl rfl (does_pick rfl rfl rfl rfl) ?_
  intro a hA
  refine seq_end ?_
  refine hK9 _ _ ?_
  refine wp_cond_true (hA.ev rfl) ?_
  refine wp_seq_k (fun K14 hK14 => ?_)
  refine wp_region_lit ?_
  refine seq_do (v := .agg #[.bool false, .slice none 0 0, .slice none 0 0, .bool false, .slice none 0 0, .slice none 0 0]) hA rfl rfl rfl (does_build rfl (fun w => by kernel_rfl)) ?_
  intro a hA
  refine seq_store (us := [.bool false, .slice none 0 0, .slice none 0 0, .bool false, .slice none 0 0, .slice none 0 0]) hA hS rfl rfl (sets_store (cs := [.bool false, .slice none 0 0, .slice none 0 0, .bool false, .slice none 0 0, .slice none 0 0]) rfl rfl rfl (by kernel_rfl) hS 0 rfl rfl rfl) 0 rfl rfl rfl rfl ?_
  intro w15 hS
  refine seq_do hA rfl rfl rfl (does_assign rfl) ?_
  intro a hA
  refine seq_end ?_
  refine hK14 _ _ ?_
  refine wp_ret ?_
  refine hret _ _ ?_
  refine ends (v := .tuple #[.agg #[.bool false, .slice none 0 0, .slice none 0 0, .bool false, .slice none 0 0, .slice none 0 0], .int .i64 2]) hA rfl (.cons (res_cell hS ExL_isS_26 rfl 0 rfl (cs := [.bool false, .slice none 0 0, .slice none 0 0, .bool false, .slice none 0 0, .slice none 0 0]) rfl rfl) (.cons (res_tmp rfl) .nil)) rfl ?_
  exact ⟨none, 0, none, 0, none, 0, none, 0, rfl, ⟨(Sc.none _), (Sc.none _), (Sc.none _), (Sc.none _)⟩, hS.bel⟩
theorem reckonA_any {w : World} {u v x y : Rat} {a1 a2 a3 a4 : Option Addr} {ac1 ac2 ac3 ac4 : Nat} (ha : Nm w (Q6.rat u v) a1 ac1 a2 ac2 a3 ac3 a4 ac4) {u1 u2 u3 u4 : Option Addr} {uc1 uc2 uc3 uc4 : Nat} (hb : Nm w (Q6.rat x y) u1 uc1 u2 uc2 u3 uc3 u4 uc4) (hu : fitR u) (hv : fitR v) (hx : fitR x) (hy : fitR y) : Calls Try.prog 29 #[.func (.func 30) #[] #[], numV (Q6.rat u v) a1 ac1 a2 ac2 a3 ac3 a4 ac4, numV (Q6.rat x y) u1 uc1 u2 uc2 u3 uc3 u4 uc4] w (AnsN w (ratS (u + x) (v + y))) := by
  have hS : St w w [] [(u4, words y.den), (u3, words y.num.natAbs), (u2, words x.den), (u1, words x.num.natAbs), (a4, words v.den), (a3, words v.num.natAbs), (a2, words u.den), (a1, words u.num.natAbs)] [] := ((((((((St.start w).addR ha.s1.rd).addR ha.s2.rd).addR ha.s3.rd).addR ha.s4.rd).addR hb.s1.rd).addR hb.s2.rd).addR hb.s3.rd).addR hb.s4.rd
  refine walk_of (l := [(0, .func (.func 30) #[] #[]), (1, .agg #[.bool (rb u.num), .slice a1 ((words u.num.natAbs).length) ac1, .slice a2 ((words u.den).length) ac2, .bool (rb v.num), .slice a3 ((words v.num.natAbs).length) ac3, .slice a4 ((words v.den).length) ac4]), (2, .agg #[.bool (rb x.num), .slice u1 ((words x.num.natAbs).length) uc1, .slice u2 ((words x.den).length) uc2, .bool (rb y.num), .slice u3 ((words y.num.natAbs).length) uc3, .slice u4 ((words y.den).length) uc4])]) Try.func29 rfl Try.ntmps29 rfl rfl ?_
  intro Q hret hnorm hP a hA
  refine wp_seq_k (fun K1 hK1 => ?_)
  refine wp_region_lit ?_
  refine seq_new (vs := [.bool (rb u.num), .slice a1 ((words u.num.natAbs).length) ac1, .slice a2 ((words u.den).length) ac2, .bool (rb v.num), .slice a3 ((words v.num.natAbs).length) ac3, .slice a4 ((words v.den).length) ac4]) (t := 26) hA hS rfl rfl rfl (fun g => .pointer (some ⟨g, 0, none⟩)) (does_box rfl rfl) rfl ?_
  intro g2 w3 hS a hA
  refine seq_new (vs := [.bool (rb x.num), .slice u1 ((words x.num.natAbs).length) uc1, .slice u2 ((words x.den).length) uc2, .bool (rb y.num), .slice u3 ((words y.num.natAbs).length) uc3, .slice u4 ((words y.den).length) uc4]) (t := 26) hA hS rfl rfl rfl (fun g => .pointer (some ⟨g, 0, none⟩)) (does_box rfl rfl) rfl ?_
  intro g4 w5 hS a hA
  refine seq_new (vs := [.bool false, .slice none 0 0, .slice none 0 0, .bool false, .slice none 0 0, .slice none 0 0]) (t := 26) hA hS rfl rfl rfl (fun g => .pointer (some ⟨g, 0, none⟩)) (does_alloc (z := .agg #[.bool false, .slice none 0 0, .slice none 0 0, .bool false, .slice none 0 0, .slice none 0 0]) (by kernel_rfl) rfl) rfl ?_
  intro g6 w7 hS a hA
  refine seq_do hA rfl rfl rfl (does_assign rfl) ?_
  intro a hA
  refine seq_end ?_
  refine hK1 _ _ ?_
  refine wp_seq_k (fun K8 hK8 => ?_)
  refine wp_seq_k (fun K9 hK9 => ?_)
  refine wp_region_lit ?_
  refine seq_do (v := .agg #[.bool (rb u.num), .slice a1 ((words u.num.natAbs).length) ac1, .slice a2 ((words u.den).length) ac2, .bool (rb v.num), .slice a3 ((words v.num.natAbs).length) ac3, .slice a4 ((words v.den).length) ac4]) hA rfl rfl rfl (does_loadS hS ExL_isS_26 rfl 2 rfl (cs := [.bool (rb u.num), .slice a1 ((words u.num.natAbs).length) ac1, .slice a2 ((words u.den).length) ac2, .bool (rb v.num), .slice a3 ((words v.num.natAbs).length) ac3, .slice a4 ((words v.den).length) ac4]) rfl rfl) ?_
  intro a hA
  refine seq_call hA rfl rfl rfl (enters_func  rfl rfl (fun w => by kernel_rfl)) (soundQ_any (show Nm _ (Q6.rat u v) a1 ac1 a2 ac2 a3 ac3 a4 ac4 from ⟨⟨(hS.rd 7 rfl), ha.s1.nil, ha.s1.cap⟩, ⟨(hS.rd 6 rfl), ha.s2.nil, ha.s2.cap⟩, ⟨(hS.rd 5 rfl), ha.s3.nil, ha.s3.cap⟩, ⟨(hS.rd 4 rfl), ha.s4.nil, ha.s4.cap⟩⟩) (lenQ_rat hu hv) (soundQ_rat hu hv)) ?_
  rintro _ w11 ⟨rfl, hb10⟩
  replace hS := hS.call hb10
  refine ⟨_, rfl, ?_⟩
  intro a hA
  refine seq_do (v := .bool false) hA rfl rfl rfl (does_un rfl un_not) ?_
  intro a hA
  refine seq_do hA rfl rfl rfl (does_move rfl) ?_
  intro a hA
  refine seq_do (v := .agg #[.bool (rb x.num), .slice u1 ((words x.num.natAbs).length) uc1, .slice u2 ((words x.den).length) uc2, .bool (rb y.num), .slice u3 ((words y.num.natAbs).length) uc3, .slice u4 ((words y.den).length) uc4]) hA rfl rfl rfl (does_loadS hS ExL_isS_26 rfl 1 rfl (cs := [.bool (rb x.num), .slice u1 ((words x.num.natAbs).length) uc1, .slice u2 ((words x.den).length) uc2, .bool (rb y.num), .slice u3 ((words y.num.natAbs).length) uc3, .slice u4 ((words y.den).length) uc4]) rfl rfl) ?_
  intro a hA
  refine seq_call hA rfl rfl rfl (enters_func  rfl rfl (fun w => by kernel_rfl)) (soundQ_any (show Nm _ (Q6.rat x y) u1 uc1 u2 uc2 u3 uc3 u4 uc4 from ⟨⟨(hS.rd 3 rfl), hb.s1.nil, hb.s1.cap⟩, ⟨(hS.rd 2 rfl), hb.s2.nil, hb.s2.cap⟩, ⟨(hS.rd 1 rfl), hb.s3.nil, hb.s3.cap⟩, ⟨(hS.rd 0 rfl), hb.s4.nil, hb.s4.cap⟩⟩) (lenQ_rat hx hy) (soundQ_rat hx hy)) ?_
  rintro _ w13 ⟨rfl, hb12⟩
  replace hS := hS.call hb12
  refine ⟨_, rfl, ?_⟩
  intro a hA
  refine seq_do (v := .bool false) hA rfl rfl rfl (does_un rfl un_not) ?_
  intro a hA
  refine seq_do (v := .bool false) hA rfl rfl rfl (does_pick rfl rfl rfl rfl) ?_
  intro a hA
  refine seq_end ?_
  refine hK9 _ _ ?_
  refine wp_cond_false (hA.ev rfl) ?_
  refine wp_skip ?_
  refine hK8 _ _ ?_
  refine wp_seq_k (fun K14 hK14 => ?_)
  refine wp_draw (S := fun w1 => St w w1 [(g4, [.bool (rb x.num), .slice u1 ((words x.num.natAbs).length) uc1, .slice u2 ((words x.den).length) uc2, .bool (rb y.num), .slice u3 ((words y.num.natAbs).length) uc3, .slice u4 ((words y.den).length) uc4]), (g2, [.bool (rb u.num), .slice a1 ((words u.num.natAbs).length) ac1, .slice a2 ((words u.den).length) ac2, .bool (rb v.num), .slice a3 ((words v.num.natAbs).length) ac3, .slice a4 ((words v.den).length) ac4])] [(u4, words y.den), (u3, words y.num.natAbs), (u2, words x.den), (u1, words x.num.natAbs), (a4, words v.den), (a3, words v.num.natAbs), (a2, words u.den), (a1, words u.num.natAbs)] []) (by kernel_rfl) ?_
  replace hS := hS.drew
  refine any_take hA 0 rfl rfl rfl rfl (by kernel_rfl) (by kernel_rfl) (by kernel_rfl) (fun c a w h => hP c a _ _ w h) (hS.part (.cons _ (.cons_cons _ (.cons_cons _ .slnil))) ⟨⟨0, rfl⟩, ⟨⟨1, rfl⟩, ⟨⟨2, rfl⟩, ⟨⟨3, rfl⟩, ⟨⟨4, rfl⟩, ⟨⟨5, rfl⟩, ⟨⟨6, rfl⟩, ⟨⟨7, rfl⟩, trivial⟩⟩⟩⟩⟩⟩⟩⟩ .slnil) (fun w1 hS => does_move rfl) ?_
  intro a hA
  refine any_take (v := .agg #[.bool (rb u.num), .slice a1 ((words u.num.natAbs).length) ac1, .slice a2 ((words u.den).length) ac2, .bool (rb v.num), .slice a3 ((words v.num.natAbs).length) ac3, .slice a4 ((words v.den).length) ac4]) hA 1 rfl rfl rfl rfl (by kernel_rfl) (by kernel_rfl) (by kernel_rfl) (fun c a w h => hP c a _ _ w h) (hS.part (.cons _ (.cons_cons _ (.cons_cons _ .slnil))) ⟨⟨0, rfl⟩, ⟨⟨1, rfl⟩, ⟨⟨2, rfl⟩, ⟨⟨3, rfl⟩, ⟨⟨4, rfl⟩, ⟨⟨5, rfl⟩, ⟨⟨6, rfl⟩, ⟨⟨7, rfl⟩, trivial⟩⟩⟩⟩⟩⟩⟩⟩ .slnil) (fun w1 hS => does_loadS hS ExL_isS_26 rfl 1 rfl (cs := [.bool (rb u.num), .slice a1 ((words u.num.natAbs).length) ac1, .slice a2 ((words u.den).length) ac2, .bool (rb v.num), .slice a3 ((words v.num.natAbs).length) ac3, .slice a4 ((words v.den).length) ac4]) rfl rfl) ?_
  intro a hA
  refine any_take (v := .agg #[.bool (rb x.num), .slice u1 ((words x.num.natAbs).length) uc1, .slice u2 ((words x.den).length) uc2, .bool (rb y.num), .slice u3 ((words y.num.natAbs).length) uc3, .slice u4 ((words y.den).length) uc4]) hA 3 rfl rfl rfl rfl (by kernel_rfl) (by kernel_rfl) (by kernel_rfl) (fun c a w h => hP c a _ _ w h) (hS.part (.cons _ (.cons_cons _ (.cons_cons _ .slnil))) ⟨⟨0, rfl⟩, ⟨⟨1, rfl⟩, ⟨⟨2, rfl⟩, ⟨⟨3, rfl⟩, ⟨⟨4, rfl⟩, ⟨⟨5, rfl⟩, ⟨⟨6, rfl⟩, ⟨⟨7, rfl⟩, trivial⟩⟩⟩⟩⟩⟩⟩⟩ .slnil) (fun w1 hS => does_loadS hS ExL_isS_26 rfl 0 rfl (cs := [.bool (rb x.num), .slice u1 ((words x.num.natAbs).length) uc1, .slice u2 ((words x.den).length) uc2, .bool (rb y.num), .slice u3 ((words y.num.natAbs).length) uc3, .slice u4 ((words y.den).length) uc4]) rfl rfl) ?_
  intro a hA
  refine any_one (by kernel_rfl) (op_call hA 2 rfl rfl rfl rfl (enters_func  rfl rfl (fun w => by kernel_rfl)) (zspread_any (show Nm _ (Q6.rat u v) a1 ac1 a2 ac2 a3 ac3 a4 ac4 from ⟨⟨(hS.rd 7 rfl), ha.s1.nil, ha.s1.cap⟩, ⟨(hS.rd 6 rfl), ha.s2.nil, ha.s2.cap⟩, ⟨(hS.rd 5 rfl), ha.s3.nil, ha.s3.cap⟩, ⟨(hS.rd 4 rfl), ha.s4.nil, ha.s4.cap⟩⟩) hu hv) ?_)
  rintro _ w20 ⟨p15_1, p15_c1, p15_2, p15_c2, p15_3, p15_c3, rfl, hs16, hs17, hs18, hb19⟩
  replace hS := hS.call hb19
  replace hS := hS.addR hs16.rd
  replace hS := hS.addR hs17.rd
  replace hS := hS.addR hs18.rd
  refine ⟨_, rfl, (hS.part (.cons _ (.cons_cons _ (.cons_cons _ .slnil))) ⟨⟨3, rfl⟩, ⟨⟨4, rfl⟩, ⟨⟨5, rfl⟩, ⟨⟨6, rfl⟩, ⟨⟨7, rfl⟩, ⟨⟨8, rfl⟩, ⟨⟨9, rfl⟩, ⟨⟨10, rfl⟩, trivial⟩⟩⟩⟩⟩⟩⟩⟩ .slnil), ?_⟩
  intro a hA
  refine any_one (by kernel_rfl) (op_call hA 4 rfl rfl rfl rfl (enters_func  rfl rfl (fun w => by kernel_rfl)) (zspread_any (show Nm _ (Q6.rat x y) u1 uc1 u2 uc2 u3 uc3 u4 uc4 from ⟨⟨(hS.rd 6 rfl), hb.s1.nil, hb.s1.cap⟩, ⟨(hS.rd 5 rfl), hb.s2.nil, hb.s2.cap⟩, ⟨(hS.rd 4 rfl), hb.s3.nil, hb.s3.cap⟩, ⟨(hS.rd 3 rfl), hb.s4.nil, hb.s4.cap⟩⟩) hx hy) ?_)
  rintro _ w26 ⟨p21_1, p21_c1, p21_2, p21_c2, p21_3, p21_c3, rfl, hs22, hs23, hs24, hb25⟩
  replace hS := hS.call hb25
  replace hS := hS.addR hs22.rd
  replace hS := hS.addR hs23.rd
  replace hS := hS.addR hs24.rd
  refine ⟨_, rfl, (hS.part (.cons _ (.cons_cons _ (.cons_cons _ .slnil))) ⟨⟨6, rfl⟩, ⟨⟨7, rfl⟩, ⟨⟨8, rfl⟩, ⟨⟨9, rfl⟩, ⟨⟨10, rfl⟩, ⟨⟨11, rfl⟩, ⟨⟨12, rfl⟩, ⟨⟨13, rfl⟩, trivial⟩⟩⟩⟩⟩⟩⟩⟩ .slnil), ?_⟩
  intro a hA
  refine any_one (by kernel_rfl) (op_call hA 5 rfl rfl rfl rfl (enters_func  rfl rfl (fun w => by kernel_rfl)) (zsum_any ⟨(hS.rd 5 rfl), hs16.nil, hs16.cap⟩ ⟨(hS.rd 4 rfl), hs17.nil, hs17.cap⟩ ⟨(hS.rd 3 rfl), hs18.nil, hs18.cap⟩ ⟨(hS.rd 2 rfl), hs22.nil, hs22.cap⟩ ⟨(hS.rd 1 rfl), hs23.nil, hs23.cap⟩ ⟨(hS.rd 0 rfl), hs24.nil, hs24.cap⟩ (Nat.le_trans (spX_len hu hv) (by decide)) (Nat.le_trans (spY_len hu hv) (by decide)) (Nat.le_trans (spD_len hu hv) (by decide)) (Nat.le_trans (spX_len hx hy) (by decide)) (Nat.le_trans (spY_len hx hy) (by decide)) (Nat.le_trans (spD_len hx hy) (by decide))) ?_)
  rintro _ w32 ⟨p27_1, p27_c1, p27_2, p27_c2, p27_3, p27_c3, rfl, hs28, hs29, hs30, hb31⟩
  replace hS := hS.call hb31
  replace hS := hS.addR hs28.rd
  replace hS := hS.addR hs29.rd
  replace hS := hS.addR hs30.rd
  refine ⟨_, rfl, (hS.part (.cons _ (.cons_cons _ (.cons_cons _ .slnil))) ⟨⟨9, rfl⟩, ⟨⟨10, rfl⟩, ⟨⟨11, rfl⟩, ⟨⟨12, rfl⟩, ⟨⟨13, rfl⟩, ⟨⟨14, rfl⟩, ⟨⟨15, rfl⟩, ⟨⟨16, rfl⟩, trivial⟩⟩⟩⟩⟩⟩⟩⟩ .slnil), ?_⟩
  intro a hA
  refine any_one (by kernel_rfl) (op_call hA 6 rfl rfl rfl rfl (enters_func  rfl rfl (fun w => by kernel_rfl)) (zsettle_as ⟨(hS.rd 2 rfl), hs28.nil, hs28.cap⟩ ⟨(hS.rd 1 rfl), hs29.nil, hs29.cap⟩ ⟨(hS.rd 0 rfl), hs30.nil, hs30.cap⟩ (set_add (spD_ne u v) (spD_ne x y) (spX_mk u v) (spY_mk u v) (spX_mk x y) (spY_mk x y)) (Nat.le_trans (abs_add_len (abs_mul_len (spX_len hu hv) (nat_abs_len (spD_len hx hy))) (abs_mul_len (spX_len hx hy) (nat_abs_len (spD_len hu hv)))) (by decide)) (Nat.le_trans (abs_add_len (abs_mul_len (spY_len hu hv) (nat_abs_len (spD_len hx hy))) (abs_mul_len (spY_len hx hy) (nat_abs_len (spD_len hu hv)))) (by decide)) (Nat.le_trans (words_mul_length (spD_len hu hv) (spD_len hx hy)) (by decide)) (Nat.mul_ne_zero (spD_ne u v) (spD_ne x y))) ?_)
  rintro _ w36 ⟨p33_1, p33_c1, p33_2, p33_c2, p33_3, p33_c3, p33_4, p33_c4, rfl, hn34, hb35⟩
  replace hS := hS.call hb35
  replace hS := hS.addR hn34.s1.rd
  replace hS := hS.addR hn34.s2.rd
  replace hS := hS.addR hn34.s3.rd
  replace hS := hS.addR hn34.s4.rd
  refine ⟨_, rfl, (hS.part (.cons _ (.cons_cons _ (.cons_cons _ .slnil))) ⟨⟨13, rfl⟩, ⟨⟨14, rfl⟩, ⟨⟨15, rfl⟩, ⟨⟨16, rfl⟩, ⟨⟨17, rfl⟩, ⟨⟨18, rfl⟩, ⟨⟨19, rfl⟩, ⟨⟨20, rfl⟩, trivial⟩⟩⟩⟩⟩⟩⟩⟩ .slnil), ?_⟩
  intro a hA
  refine any_take (v := .agg #[.bool ((ratS (u + x) (v + y)).1.b1), .slice p33_1 (((ratS (u + x) (v + y)).1.t1).length) p33_c1, .slice p33_2 (((ratS (u + x) (v + y)).1.q1).length) p33_c2, .bool ((ratS (u + x) (v + y)).1.b2), .slice p33_3 (((ratS (u + x) (v + y)).1.t2).length) p33_c3, .slice p33_4 (((ratS (u + x) (v + y)).1.q2).length) p33_c4]) hA 7 rfl rfl rfl rfl (by kernel_rfl) (by kernel_rfl) (by kernel_rfl) (fun c a w h => hP c a _ _ w h) (hS.part (.cons _ (.cons_cons _ (.cons_cons _ .slnil))) ⟨⟨13, rfl⟩, ⟨⟨14, rfl⟩, ⟨⟨15, rfl⟩, ⟨⟨16, rfl⟩, ⟨⟨17, rfl⟩, ⟨⟨18, rfl⟩, ⟨⟨19, rfl⟩, ⟨⟨20, rfl⟩, trivial⟩⟩⟩⟩⟩⟩⟩⟩ .slnil) (fun w1 hS => does_extract (vs := [.agg #[.bool ((ratS (u + x) (v + y)).1.b1), .slice p33_1 (((ratS (u + x) (v + y)).1.t1).length) p33_c1, .slice p33_2 (((ratS (u + x) (v + y)).1.q1).length) p33_c2, .bool ((ratS (u + x) (v + y)).1.b2), .slice p33_3 (((ratS (u + x) (v + y)).1.t2).length) p33_c3, .slice p33_4 (((ratS (u + x) (v + y)).1.q2).length) p33_c4], .int .i64 ((ratS (u + x) (v + y)).2)]) rfl rfl) ?_
  intro a hA
  refine any_take (v := .int .i64 ((ratS (u + x) (v + y)).2)) hA 8 rfl rfl rfl rfl (by kernel_rfl) (by kernel_rfl) (by kernel_rfl) (fun c a w h => hP c a _ _ w h) (hS.part (.cons _ (.cons_cons _ (.cons_cons _ .slnil))) ⟨⟨13, rfl⟩, ⟨⟨14, rfl⟩, ⟨⟨15, rfl⟩, ⟨⟨16, rfl⟩, ⟨⟨17, rfl⟩, ⟨⟨18, rfl⟩, ⟨⟨19, rfl⟩, ⟨⟨20, rfl⟩, trivial⟩⟩⟩⟩⟩⟩⟩⟩ .slnil) (fun w1 hS => does_extract (vs := [.agg #[.bool ((ratS (u + x) (v + y)).1.b1), .slice p33_1 (((ratS (u + x) (v + y)).1.t1).length) p33_c1, .slice p33_2 (((ratS (u + x) (v + y)).1.q1).length) p33_c2, .bool ((ratS (u + x) (v + y)).1.b2), .slice p33_3 (((ratS (u + x) (v + y)).1.t2).length) p33_c3, .slice p33_4 (((ratS (u + x) (v + y)).1.q2).length) p33_c4], .int .i64 ((ratS (u + x) (v + y)).2)]) rfl rfl) ?_
  intro a hA
  refine any_one (by kernel_rfl) (op_store (us := [.bool ((ratS (u + x) (v + y)).1.b1), .slice p33_1 (((ratS (u + x) (v + y)).1.t1).length) p33_c1, .slice p33_2 (((ratS (u + x) (v + y)).1.q1).length) p33_c2, .bool ((ratS (u + x) (v + y)).1.b2), .slice p33_3 (((ratS (u + x) (v + y)).1.t2).length) p33_c3, .slice p33_4 (((ratS (u + x) (v + y)).1.q2).length) p33_c4]) hA hS 9 rfl rfl rfl (sets_store (cs := [.bool ((ratS (u + x) (v + y)).1.b1), .slice p33_1 (((ratS (u + x) (v + y)).1.t1).length) p33_c1, .slice p33_2 (((ratS (u + x) (v + y)).1.q1).length) p33_c2, .bool ((ratS (u + x) (v + y)).1.b2), .slice p33_3 (((ratS (u + x) (v + y)).1.t2).length) p33_c3, .slice p33_4 (((ratS (u + x) (v + y)).1.q2).length) p33_c4]) rfl rfl rfl (by kernel_rfl) hS 0 rfl rfl rfl) 0 rfl rfl rfl rfl ?_)
  intro w37 hS
  refine ⟨(hS.part (.cons _ (.cons_cons _ (.cons_cons _ .slnil))) ⟨⟨13, rfl⟩, ⟨⟨14, rfl⟩, ⟨⟨15, rfl⟩, ⟨⟨16, rfl⟩, ⟨⟨17, rfl⟩, ⟨⟨18, rfl⟩, ⟨⟨19, rfl⟩, ⟨⟨20, rfl⟩, trivial⟩⟩⟩⟩⟩⟩⟩⟩ .slnil), ?_⟩
  refine any_take hA 10 rfl rfl rfl rfl (by kernel_rfl) (by kernel_rfl) (by kernel_rfl) (fun c a w h => hP c a _ _ w h) (hS.part (.cons _ (.cons_cons _ (.cons_cons _ .slnil))) ⟨⟨13, rfl⟩, ⟨⟨14, rfl⟩, ⟨⟨15, rfl⟩, ⟨⟨16, rfl⟩, ⟨⟨17, rfl⟩, ⟨⟨18, rfl⟩, ⟨⟨19, rfl⟩, ⟨⟨20, rfl⟩, trivial⟩⟩⟩⟩⟩⟩⟩⟩ .slnil) (fun w1 hS => does_assign rfl) ?_
  intro a hA
  refine any_end (by kernel_rfl) ?_
  refine hK14 _ _ ?_
  refine wp_ret ?_
  refine hret _ _ ?_
  refine ends (v := .tuple #[.agg #[.bool ((ratS (u + x) (v + y)).1.b1), .slice p33_1 (((ratS (u + x) (v + y)).1.t1).length) p33_c1, .slice p33_2 (((ratS (u + x) (v + y)).1.q1).length) p33_c2, .bool ((ratS (u + x) (v + y)).1.b2), .slice p33_3 (((ratS (u + x) (v + y)).1.t2).length) p33_c3, .slice p33_4 (((ratS (u + x) (v + y)).1.q2).length) p33_c4], .int .i64 ((ratS (u + x) (v + y)).2)]) hA rfl (.cons (res_cell hS ExL_isS_26 rfl 0 rfl (cs := [.bool ((ratS (u + x) (v + y)).1.b1), .slice p33_1 (((ratS (u + x) (v + y)).1.t1).length) p33_c1, .slice p33_2 (((ratS (u + x) (v + y)).1.q1).length) p33_c2, .bool ((ratS (u + x) (v + y)).1.b2), .slice p33_3 (((ratS (u + x) (v + y)).1.t2).length) p33_c3, .slice p33_4 (((ratS (u + x) (v + y)).1.q2).length) p33_c4]) rfl rfl) (.cons (res_tmp rfl) .nil)) rfl ?_
  exact ⟨p33_1, p33_c1, p33_2, p33_c2, p33_3, p33_c3, p33_4, p33_c4, rfl, ⟨⟨(hS.rd 3 rfl), hn34.s1.nil, hn34.s1.cap⟩, ⟨(hS.rd 2 rfl), hn34.s2.nil, hn34.s2.cap⟩, ⟨(hS.rd 1 rfl), hn34.s3.nil, hn34.s3.cap⟩, ⟨(hS.rd 0 rfl), hn34.s4.nil, hn34.s4.cap⟩⟩, hS.bel⟩
theorem reckonAQ_any {w : World} {p q : Q6} {a1 a2 a3 a4 : Option Addr} {ac1 ac2 ac3 ac4 : Nat} (ha : Nm w p a1 ac1 a2 ac2 a3 ac3 a4 ac4) (hl : LenQ p) {u1 u2 u3 u4 : Option Addr} {uc1 uc2 uc3 uc4 : Nat} (hb : Nm w q u1 uc1 u2 uc2 u3 uc3 u4 uc4) (hm : LenQ q) : Calls Try.prog 29 #[.func (.func 30) #[] #[], numV p a1 ac1 a2 ac2 a3 ac3 a4 ac4, numV q u1 uc1 u2 uc2 u3 uc3 u4 uc4] w (AnsN w (addQ p q)) := by
  rcases sound_cases ha with h1 | ⟨u, v, rfl, hu, hv⟩
  · rw [show addQ p q = (Q6.zero, 2) from if_neg (fun k => by rw [h1] at k; cases k.1)]
    exact reckonE1_any ha hl hb hm h1
  · rcases sound_cases hb with h2 | ⟨x, y, rfl, hx, hy⟩
    · rw [show addQ _ q = (Q6.zero, 2) from if_neg (fun k => by rw [h2] at k; cases k.2)]
      exact reckonE2_any ha hl hb hm (soundQ_rat hu hv) h2
    · rw [addQ_rat hu hv hx hy]
      exact reckonA_any ha hb hu hv hx hy
theorem addQ_any {w : World} {p q : Q6} {a1 a2 a3 a4 : Option Addr} {ac1 ac2 ac3 ac4 : Nat} (ha : Nm w p a1 ac1 a2 ac2 a3 ac3 a4 ac4) (hl : LenQ p) {u1 u2 u3 u4 : Option Addr} {uc1 uc2 uc3 uc4 : Nat} (hb : Nm w q u1 uc1 u2 uc2 u3 uc3 u4 uc4) (hm : LenQ q) : Calls Try.prog 10 #[numV p a1 ac1 a2 ac2 a3 ac3 a4 ac4, numV q u1 uc1 u2 uc2 u3 uc3 u4 uc4] w (AnsN w (addQ p q)) := by
  have hS : St w w [] [(u4, q.q2), (u3, q.t2), (u2, q.q1), (u1, q.t1), (a4, p.q2), (a3, p.t2), (a2, p.q1), (a1, p.t1)] [] := ((((((((St.start w).addR ha.s1.rd).addR ha.s2.rd).addR ha.s3.rd).addR ha.s4.rd).addR hb.s1.rd).addR hb.s2.rd).addR hb.s3.rd).addR hb.s4.rd
  refine walk_of (l := [(0, .agg #[.bool p.b1, .slice a1 p.t1.length ac1, .slice a2 p.q1.length ac2, .bool p.b2, .slice a3 p.t2.length ac3, .slice a4 p.q2.length ac4]), (1, .agg #[.bool q.b1, .slice u1 q.t1.length uc1, .slice u2 q.q1.length uc2, .bool q.b2, .slice u3 q.t2.length uc3, .slice u4 q.q2.length uc4])]) Try.func10 rfl Try.ntmps10 rfl rfl ?_
  intro Q hret hnorm hP a hA
  refine wp_seq_k (fun K1 hK1 => ?_)
  refine wp_region_lit ?_
  refine seq_new (vs := [.bool p.b1, .slice a1 p.t1.length ac1, .slice a2 p.q1.length ac2, .bool p.b2, .slice a3 p.t2.length ac3, .slice a4 p.q2.length ac4]) (t := 26) hA hS rfl rfl rfl (fun g => .pointer (some ⟨g, 0, none⟩)) (does_box rfl rfl) rfl ?_
  intro g2 w3 hS a hA
  refine seq_new (vs := [.bool q.b1, .slice u1 q.t1.length uc1, .slice u2 q.q1.length uc2, .bool q.b2, .slice u3 q.t2.length uc3, .slice u4 q.q2.length uc4]) (t := 26) hA hS rfl rfl rfl (fun g => .pointer (some ⟨g, 0, none⟩)) (does_box rfl rfl) rfl ?_
  intro g4 w5 hS a hA
  refine seq_new (vs := [.bool false, .slice none 0 0, .slice none 0 0, .bool false, .slice none 0 0, .slice none 0 0]) (t := 26) hA hS rfl rfl rfl (fun g => .pointer (some ⟨g, 0, none⟩)) (does_alloc (z := .agg #[.bool false, .slice none 0 0, .slice none 0 0, .bool false, .slice none 0 0, .slice none 0 0]) (by kernel_rfl) rfl) rfl ?_
  intro g6 w7 hS a hA
  refine seq_do hA rfl rfl rfl (does_assign rfl) ?_
  intro a hA
  refine seq_end ?_
  refine hK1 _ _ ?_
  refine wp_seq_k (fun K8 hK8 => ?_)
  refine wp_region_lit ?_
  refine seq_do (v := .agg #[.bool p.b1, .slice a1 p.t1.length ac1, .slice a2 p.q1.length ac2, .bool p.b2, .slice a3 p.t2.length ac3, .slice a4 p.q2.length ac4]) hA rfl rfl rfl (does_loadS hS ExL_isS_26 rfl 2 rfl (cs := [.bool p.b1, .slice a1 p.t1.length ac1, .slice a2 p.q1.length ac2, .bool p.b2, .slice a3 p.t2.length ac3, .slice a4 p.q2.length ac4]) rfl rfl) ?_
  intro a hA
  refine seq_do (v := .agg #[.bool q.b1, .slice u1 q.t1.length uc1, .slice u2 q.q1.length uc2, .bool q.b2, .slice u3 q.t2.length uc3, .slice u4 q.q2.length uc4]) hA rfl rfl rfl (does_loadS hS ExL_isS_26 rfl 1 rfl (cs := [.bool q.b1, .slice u1 q.t1.length uc1, .slice u2 q.q1.length uc2, .bool q.b2, .slice u3 q.t2.length uc3, .slice u4 q.q2.length uc4]) rfl rfl) ?_
  intro a hA
  refine seq_call hA rfl rfl rfl (enters_func  rfl rfl (fun w => by kernel_rfl)) (reckonAQ_any (show Nm _ p a1 ac1 a2 ac2 a3 ac3 a4 ac4 from ⟨⟨(hS.rd 7 rfl), ha.s1.nil, ha.s1.cap⟩, ⟨(hS.rd 6 rfl), ha.s2.nil, ha.s2.cap⟩, ⟨(hS.rd 5 rfl), ha.s3.nil, ha.s3.cap⟩, ⟨(hS.rd 4 rfl), ha.s4.nil, ha.s4.cap⟩⟩) hl (show Nm _ q u1 uc1 u2 uc2 u3 uc3 u4 uc4 from ⟨⟨(hS.rd 3 rfl), hb.s1.nil, hb.s1.cap⟩, ⟨(hS.rd 2 rfl), hb.s2.nil, hb.s2.cap⟩, ⟨(hS.rd 1 rfl), hb.s3.nil, hb.s3.cap⟩, ⟨(hS.rd 0 rfl), hb.s4.nil, hb.s4.cap⟩⟩) hm) ?_
  rintro _ w12 ⟨p9_1, p9_c1, p9_2, p9_c2, p9_3, p9_c3, p9_4, p9_c4, rfl, hn10, hb11⟩
  replace hS := hS.call hb11
  replace hS := hS.addR hn10.s1.rd
  replace hS := hS.addR hn10.s2.rd
  replace hS := hS.addR hn10.s3.rd
  replace hS := hS.addR hn10.s4.rd
  refine ⟨_, rfl, ?_⟩
  intro a hA
  refine seq_do (v := .agg #[.bool ((addQ p q).1.b1), .slice p9_1 (((addQ p q).1.t1).length) p9_c1, .slice p9_2 (((addQ p q).1.q1).length) p9_c2, .bool ((addQ p q).1.b2), .slice p9_3 (((addQ p q).1.t2).length) p9_c3, .slice p9_4 (((addQ p q).1.q2).length) p9_c4]) hA rfl rfl rfl (does_extract (vs := [.agg #[.bool ((addQ p q).1.b1), .slice p9_1 (((addQ p q).1.t1).length) p9_c1, .slice p9_2 (((addQ p q).1.q1).length) p9_c2, .bool ((addQ p q).1.b2), .slice p9_3 (((addQ p q).1.t2).length) p9_c3, .slice p9_4 (((addQ p q).1.q2).length) p9_c4], .int .i64 ((addQ p q).2)]) rfl rfl) ?_
  intro a hA
  refine seq_do (v := .int .i64 ((addQ p q).2)) hA rfl rfl rfl (does_extract (vs := [.agg #[.bool ((addQ p q).1.b1), .slice p9_1 (((addQ p q).1.t1).length) p9_c1, .slice p9_2 (((addQ p q).1.q1).length) p9_c2, .bool ((addQ p q).1.b2), .slice p9_3 (((addQ p q).1.t2).length) p9_c3, .slice p9_4 (((addQ p q).1.q2).length) p9_c4], .int .i64 ((addQ p q).2)]) rfl rfl) ?_
  intro a hA
  refine seq_store (us := [.bool ((addQ p q).1.b1), .slice p9_1 (((addQ p q).1.t1).length) p9_c1, .slice p9_2 (((addQ p q).1.q1).length) p9_c2, .bool ((addQ p q).1.b2), .slice p9_3 (((addQ p q).1.t2).length) p9_c3, .slice p9_4 (((addQ p q).1.q2).length) p9_c4]) hA hS rfl rfl (sets_store (cs := [.bool ((addQ p q).1.b1), .slice p9_1 (((addQ p q).1.t1).length) p9_c1, .slice p9_2 (((addQ p q).1.q1).length) p9_c2, .bool ((addQ p q).1.b2), .slice p9_3 (((addQ p q).1.t2).length) p9_c3, .slice p9_4 (((addQ p q).1.q2).length) p9_c4]) rfl rfl rfl (by kernel_rfl) hS 0 rfl rfl rfl) 0 rfl rfl rfl rfl ?_
  intro w13 hS
  refine seq_do hA rfl rfl rfl (does_assign rfl) ?_
  intro a hA
  refine seq_end ?_
  refine hK8 _ _ ?_
  refine wp_ret ?_
  refine hret _ _ ?_
  refine ends (v := .tuple #[.agg #[.bool ((addQ p q).1.b1), .slice p9_1 (((addQ p q).1.t1).length) p9_c1, .slice p9_2 (((addQ p q).1.q1).length) p9_c2, .bool ((addQ p q).1.b2), .slice p9_3 (((addQ p q).1.t2).length) p9_c3, .slice p9_4 (((addQ p q).1.q2).length) p9_c4], .int .i64 ((addQ p q).2)]) hA rfl (.cons (res_cell hS ExL_isS_26 rfl 0 rfl (cs := [.bool ((addQ p q).1.b1), .slice p9_1 (((addQ p q).1.t1).length) p9_c1, .slice p9_2 (((addQ p q).1.q1).length) p9_c2, .bool ((addQ p q).1.b2), .slice p9_3 (((addQ p q).1.t2).length) p9_c3, .slice p9_4 (((addQ p q).1.q2).length) p9_c4]) rfl rfl) (.cons (res_tmp rfl) .nil)) rfl ?_
  exact ⟨p9_1, p9_c1, p9_2, p9_c2, p9_3, p9_c3, p9_4, p9_c4, rfl, ⟨⟨(hS.rd 3 rfl), hn10.s1.nil, hn10.s1.cap⟩, ⟨(hS.rd 2 rfl), hn10.s2.nil, hn10.s2.cap⟩, ⟨(hS.rd 1 rfl), hn10.s3.nil, hn10.s3.cap⟩, ⟨(hS.rd 0 rfl), hn10.s4.nil, hn10.s4.cap⟩⟩, hS.bel⟩
theorem reckonS_any {w : World} {u v x y : Rat} {a1 a2 a3 a4 : Option Addr} {ac1 ac2 ac3 ac4 : Nat} (ha : Nm w (Q6.rat u v) a1 ac1 a2 ac2 a3 ac3 a4 ac4) {u1 u2 u3 u4 : Option Addr} {uc1 uc2 uc3 uc4 : Nat} (hb : Nm w (Q6.rat x y) u1 uc1 u2 uc2 u3 uc3 u4 uc4) (hu : fitR u) (hv : fitR v) (hx : fitR x) (hy : fitR y) : Calls Try.prog 29 #[.func (.func 32) #[] #[], numV (Q6.rat u v) a1 ac1 a2 ac2 a3 ac3 a4 ac4, numV (Q6.rat x y) u1 uc1 u2 uc2 u3 uc3 u4 uc4] w (AnsN w (ratS (u - x) (v - y))) := by
  have hS : St w w [] [(u4, words y.den), (u3, words y.num.natAbs), (u2, words x.den), (u1, words x.num.natAbs), (a4, words v.den), (a3, words v.num.natAbs), (a2, words u.den), (a1, words u.num.natAbs)] [] := ((((((((St.start w).addR ha.s1.rd).addR ha.s2.rd).addR ha.s3.rd).addR ha.s4.rd).addR hb.s1.rd).addR hb.s2.rd).addR hb.s3.rd).addR hb.s4.rd
  refine walk_of (l := [(0, .func (.func 32) #[] #[]), (1, .agg #[.bool (rb u.num), .slice a1 ((words u.num.natAbs).length) ac1, .slice a2 ((words u.den).length) ac2, .bool (rb v.num), .slice a3 ((words v.num.natAbs).length) ac3, .slice a4 ((words v.den).length) ac4]), (2, .agg #[.bool (rb x.num), .slice u1 ((words x.num.natAbs).length) uc1, .slice u2 ((words x.den).length) uc2, .bool (rb y.num), .slice u3 ((words y.num.natAbs).length) uc3, .slice u4 ((words y.den).length) uc4])]) Try.func29 rfl Try.ntmps29 rfl rfl ?_
  intro Q hret hnorm hP a hA
  refine wp_seq_k (fun K1 hK1 => ?_)
  refine wp_region_lit ?_
  refine seq_new (vs := [.bool (rb u.num), .slice a1 ((words u.num.natAbs).length) ac1, .slice a2 ((words u.den).length) ac2, .bool (rb v.num), .slice a3 ((words v.num.natAbs).length) ac3, .slice a4 ((words v.den).length) ac4]) (t := 26) hA hS rfl rfl rfl (fun g => .pointer (some ⟨g, 0, none⟩)) (does_box rfl rfl) rfl ?_
  intro g2 w3 hS a hA
  refine seq_new (vs := [.bool (rb x.num), .slice u1 ((words x.num.natAbs).length) uc1, .slice u2 ((words x.den).length) uc2, .bool (rb y.num), .slice u3 ((words y.num.natAbs).length) uc3, .slice u4 ((words y.den).length) uc4]) (t := 26) hA hS rfl rfl rfl (fun g => .pointer (some ⟨g, 0, none⟩)) (does_box rfl rfl) rfl ?_
  intro g4 w5 hS a hA
  refine seq_new (vs := [.bool false, .slice none 0 0, .slice none 0 0, .bool false, .slice none 0 0, .slice none 0 0]) (t := 26) hA hS rfl rfl rfl (fun g => .pointer (some ⟨g, 0, none⟩)) (does_alloc (z := .agg #[.bool false, .slice none 0 0, .slice none 0 0, .bool false, .slice none 0 0, .slice none 0 0]) (by kernel_rfl) rfl) rfl ?_
  intro g6 w7 hS a hA
  refine seq_do hA rfl rfl rfl (does_assign rfl) ?_
  intro a hA
  refine seq_end ?_
  refine hK1 _ _ ?_
  refine wp_seq_k (fun K8 hK8 => ?_)
  refine wp_seq_k (fun K9 hK9 => ?_)
  refine wp_region_lit ?_
  refine seq_do (v := .agg #[.bool (rb u.num), .slice a1 ((words u.num.natAbs).length) ac1, .slice a2 ((words u.den).length) ac2, .bool (rb v.num), .slice a3 ((words v.num.natAbs).length) ac3, .slice a4 ((words v.den).length) ac4]) hA rfl rfl rfl (does_loadS hS ExL_isS_26 rfl 2 rfl (cs := [.bool (rb u.num), .slice a1 ((words u.num.natAbs).length) ac1, .slice a2 ((words u.den).length) ac2, .bool (rb v.num), .slice a3 ((words v.num.natAbs).length) ac3, .slice a4 ((words v.den).length) ac4]) rfl rfl) ?_
  intro a hA
  refine seq_call hA rfl rfl rfl (enters_func  rfl rfl (fun w => by kernel_rfl)) (soundQ_any (show Nm _ (Q6.rat u v) a1 ac1 a2 ac2 a3 ac3 a4 ac4 from ⟨⟨(hS.rd 7 rfl), ha.s1.nil, ha.s1.cap⟩, ⟨(hS.rd 6 rfl), ha.s2.nil, ha.s2.cap⟩, ⟨(hS.rd 5 rfl), ha.s3.nil, ha.s3.cap⟩, ⟨(hS.rd 4 rfl), ha.s4.nil, ha.s4.cap⟩⟩) (lenQ_rat hu hv) (soundQ_rat hu hv)) ?_
  rintro _ w11 ⟨rfl, hb10⟩
  replace hS := hS.call hb10
  refine ⟨_, rfl, ?_⟩
  intro a hA
  refine seq_do (v := .bool false) hA rfl rfl rfl (does_un rfl un_not) ?_
  intro a hA
  refine seq_do hA rfl rfl rfl (does_move rfl) ?_
  intro a hA
  refine seq_do (v := .agg #[.bool (rb x.num), .slice u1 ((words x.num.natAbs).length) uc1, .slice u2 ((words x.den).length) uc2, .bool (rb y.num), .slice u3 ((words y.num.natAbs).length) uc3, .slice u4 ((words y.den).length) uc4]) hA rfl rfl rfl (does_loadS hS ExL_isS_26 rfl 1 rfl (cs := [.bool (rb x.num), .slice u1 ((words x.num.natAbs).length) uc1, .slice u2 ((words x.den).length) uc2, .bool (rb y.num), .slice u3 ((words y.num.natAbs).length) uc3, .slice u4 ((words y.den).length) uc4]) rfl rfl) ?_
  intro a hA
  refine seq_call hA rfl rfl rfl (enters_func  rfl rfl (fun w => by kernel_rfl)) (soundQ_any (show Nm _ (Q6.rat x y) u1 uc1 u2 uc2 u3 uc3 u4 uc4 from ⟨⟨(hS.rd 3 rfl), hb.s1.nil, hb.s1.cap⟩, ⟨(hS.rd 2 rfl), hb.s2.nil, hb.s2.cap⟩, ⟨(hS.rd 1 rfl), hb.s3.nil, hb.s3.cap⟩, ⟨(hS.rd 0 rfl), hb.s4.nil, hb.s4.cap⟩⟩) (lenQ_rat hx hy) (soundQ_rat hx hy)) ?_
  rintro _ w13 ⟨rfl, hb12⟩
  replace hS := hS.call hb12
  refine ⟨_, rfl, ?_⟩
  intro a hA
  refine seq_do (v := .bool false) hA rfl rfl rfl (does_un rfl un_not) ?_
  intro a hA
  refine seq_do (v := .bool false) hA rfl rfl rfl (does_pick rfl rfl rfl rfl) ?_
  intro a hA
  refine seq_end ?_
  refine hK9 _ _ ?_
  refine wp_cond_false (hA.ev rfl) ?_
  refine wp_skip ?_
  refine hK8 _ _ ?_
  refine wp_seq_k (fun K14 hK14 => ?_)
  refine wp_draw (S := fun w1 => St w w1 [(g4, [.bool (rb x.num), .slice u1 ((words x.num.natAbs).length) uc1, .slice u2 ((words x.den).length) uc2, .bool (rb y.num), .slice u3 ((words y.num.natAbs).length) uc3, .slice u4 ((words y.den).length) uc4]), (g2, [.bool (rb u.num), .slice a1 ((words u.num.natAbs).length) ac1, .slice a2 ((words u.den).length) ac2, .bool (rb v.num), .slice a3 ((words v.num.natAbs).length) ac3, .slice a4 ((words v.den).length) ac4])] [(u4, words y.den), (u3, words y.num.natAbs), (u2, words x.den), (u1, words x.num.natAbs), (a4, words v.den), (a3, words v.num.natAbs), (a2, words u.den), (a1, words u.num.natAbs)] []) (by kernel_rfl) ?_
  replace hS := hS.drew
  refine any_take hA 0 rfl rfl rfl rfl (by kernel_rfl) (by kernel_rfl) (by kernel_rfl) (fun c a w h => hP c a _ _ w h) (hS.part (.cons _ (.cons_cons _ (.cons_cons _ .slnil))) ⟨⟨0, rfl⟩, ⟨⟨1, rfl⟩, ⟨⟨2, rfl⟩, ⟨⟨3, rfl⟩, ⟨⟨4, rfl⟩, ⟨⟨5, rfl⟩, ⟨⟨6, rfl⟩, ⟨⟨7, rfl⟩, trivial⟩⟩⟩⟩⟩⟩⟩⟩ .slnil) (fun w1 hS => does_move rfl) ?_
  intro a hA
  refine any_take (v := .agg #[.bool (rb u.num), .slice a1 ((words u.num.natAbs).length) ac1, .slice a2 ((words u.den).length) ac2, .bool (rb v.num), .slice a3 ((words v.num.natAbs).length) ac3, .slice a4 ((words v.den).length) ac4]) hA 1 rfl rfl rfl rfl (by kernel_rfl) (by kernel_rfl) (by kernel_rfl) (fun c a w h => hP c a _ _ w h) (hS.part (.cons _ (.cons_cons _ (.cons_cons _ .slnil))) ⟨⟨0, rfl⟩, ⟨⟨1, rfl⟩, ⟨⟨2, rfl⟩, ⟨⟨3, rfl⟩, ⟨⟨4, rfl⟩, ⟨⟨5, rfl⟩, ⟨⟨6, rfl⟩, ⟨⟨7, rfl⟩, trivial⟩⟩⟩⟩⟩⟩⟩⟩ .slnil) (fun w1 hS => does_loadS hS ExL_isS_26 rfl 1 rfl (cs := [.bool (rb u.num), .slice a1 ((words u.num.natAbs).length) ac1, .slice a2 ((words u.den).length) ac2, .bool (rb v.num), .slice a3 ((words v.num.natAbs).length) ac3, .slice a4 ((words v.den).length) ac4]) rfl rfl) ?_
  intro a hA
  refine any_take (v := .agg #[.bool (rb x.num), .slice u1 ((words x.num.natAbs).length) uc1, .slice u2 ((words x.den).length) uc2, .bool (rb y.num), .slice u3 ((words y.num.natAbs).length) uc3, .slice u4 ((words y.den).length) uc4]) hA 3 rfl rfl rfl rfl (by kernel_rfl) (by kernel_rfl) (by kernel_rfl) (fun c a w h => hP c a _ _ w h) (hS.part (.cons _ (.cons_cons _ (.cons_cons _ .slnil))) ⟨⟨0, rfl⟩, ⟨⟨1, rfl⟩, ⟨⟨2, rfl⟩, ⟨⟨3, rfl⟩, ⟨⟨4, rfl⟩, ⟨⟨5, rfl⟩, ⟨⟨6, rfl⟩, ⟨⟨7, rfl⟩, trivial⟩⟩⟩⟩⟩⟩⟩⟩ .slnil) (fun w1 hS => does_loadS hS ExL_isS_26 rfl 0 rfl (cs := [.bool (rb x.num), .slice u1 ((words x.num.natAbs).length) uc1, .slice u2 ((words x.den).length) uc2, .bool (rb y.num), .slice u3 ((words y.num.natAbs).length) uc3, .slice u4 ((words y.den).length) uc4]) rfl rfl) ?_
  intro a hA
  refine any_one (by kernel_rfl) (op_call hA 2 rfl rfl rfl rfl (enters_func  rfl rfl (fun w => by kernel_rfl)) (zspread_any (show Nm _ (Q6.rat u v) a1 ac1 a2 ac2 a3 ac3 a4 ac4 from ⟨⟨(hS.rd 7 rfl), ha.s1.nil, ha.s1.cap⟩, ⟨(hS.rd 6 rfl), ha.s2.nil, ha.s2.cap⟩, ⟨(hS.rd 5 rfl), ha.s3.nil, ha.s3.cap⟩, ⟨(hS.rd 4 rfl), ha.s4.nil, ha.s4.cap⟩⟩) hu hv) ?_)
  rintro _ w20 ⟨p15_1, p15_c1, p15_2, p15_c2, p15_3, p15_c3, rfl, hs16, hs17, hs18, hb19⟩
  replace hS := hS.call hb19
  replace hS := hS.addR hs16.rd
  replace hS := hS.addR hs17.rd
  replace hS := hS.addR hs18.rd
  refine ⟨_, rfl, (hS.part (.cons _ (.cons_cons _ (.cons_cons _ .slnil))) ⟨⟨3, rfl⟩, ⟨⟨4, rfl⟩, ⟨⟨5, rfl⟩, ⟨⟨6, rfl⟩, ⟨⟨7, rfl⟩, ⟨⟨8, rfl⟩, ⟨⟨9, rfl⟩, ⟨⟨10, rfl⟩, trivial⟩⟩⟩⟩⟩⟩⟩⟩ .slnil), ?_⟩
  intro a hA
  refine any_one (by kernel_rfl) (op_call hA 4 rfl rfl rfl rfl (enters_func  rfl rfl (fun w => by kernel_rfl)) (zspread_any (show Nm _ (Q6.rat x y) u1 uc1 u2 uc2 u3 uc3 u4 uc4 from ⟨⟨(hS.rd 6 rfl), hb.s1.nil, hb.s1.cap⟩, ⟨(hS.rd 5 rfl), hb.s2.nil, hb.s2.cap⟩, ⟨(hS.rd 4 rfl), hb.s3.nil, hb.s3.cap⟩, ⟨(hS.rd 3 rfl), hb.s4.nil, hb.s4.cap⟩⟩) hx hy) ?_)
  rintro _ w26 ⟨p21_1, p21_c1, p21_2, p21_c2, p21_3, p21_c3, rfl, hs22, hs23, hs24, hb25⟩
  replace hS := hS.call hb25
  replace hS := hS.addR hs22.rd
  replace hS := hS.addR hs23.rd
  replace hS := hS.addR hs24.rd
  refine ⟨_, rfl, (hS.part (.cons _ (.cons_cons _ (.cons_cons _ .slnil))) ⟨⟨6, rfl⟩, ⟨⟨7, rfl⟩, ⟨⟨8, rfl⟩, ⟨⟨9, rfl⟩, ⟨⟨10, rfl⟩, ⟨⟨11, rfl⟩, ⟨⟨12, rfl⟩, ⟨⟨13, rfl⟩, trivial⟩⟩⟩⟩⟩⟩⟩⟩ .slnil), ?_⟩
  intro a hA
  refine any_one (by kernel_rfl) (op_call hA 5 rfl rfl rfl rfl (enters_func  rfl rfl (fun w => by kernel_rfl)) (zdiff_any ⟨(hS.rd 5 rfl), hs16.nil, hs16.cap⟩ ⟨(hS.rd 4 rfl), hs17.nil, hs17.cap⟩ ⟨(hS.rd 3 rfl), hs18.nil, hs18.cap⟩ ⟨(hS.rd 2 rfl), hs22.nil, hs22.cap⟩ ⟨(hS.rd 1 rfl), hs23.nil, hs23.cap⟩ ⟨(hS.rd 0 rfl), hs24.nil, hs24.cap⟩ (Nat.le_trans (spX_len hu hv) (by decide)) (Nat.le_trans (spY_len hu hv) (by decide)) (Nat.le_trans (spD_len hu hv) (by decide)) (Nat.le_trans (spX_len hx hy) (by decide)) (Nat.le_trans (spY_len hx hy) (by decide)) (Nat.le_trans (spD_len hx hy) (by decide))) ?_)
  rintro _ w32 ⟨p27_1, p27_c1, p27_2, p27_c2, p27_3, p27_c3, rfl, hs28, hs29, hs30, hb31⟩
  replace hS := hS.call hb31
  replace hS := hS.addR hs28.rd
  replace hS := hS.addR hs29.rd
  replace hS := hS.addR hs30.rd
  refine ⟨_, rfl, (hS.part (.cons _ (.cons_cons _ (.cons_cons _ .slnil))) ⟨⟨9, rfl⟩, ⟨⟨10, rfl⟩, ⟨⟨11, rfl⟩, ⟨⟨12, rfl⟩, ⟨⟨13, rfl⟩, ⟨⟨14, rfl⟩, ⟨⟨15, rfl⟩, ⟨⟨16, rfl⟩, trivial⟩⟩⟩⟩⟩⟩⟩⟩ .slnil), ?_⟩
  intro a hA
  refine any_one (by kernel_rfl) (op_call hA 6 rfl rfl rfl rfl (enters_func  rfl rfl (fun w => by kernel_rfl)) (zsettle_as ⟨(hS.rd 2 rfl), hs28.nil, hs28.cap⟩ ⟨(hS.rd 1 rfl), hs29.nil, hs29.cap⟩ ⟨(hS.rd 0 rfl), hs30.nil, hs30.cap⟩ (set_sub (spD_ne u v) (spD_ne x y) (spX_mk u v) (spY_mk u v) (spX_mk x y) (spY_mk x y)) (Nat.le_trans (abs_add_len (abs_mul_len (spX_len hu hv) (nat_abs_len (spD_len hx hy))) (abs_mul_len (neg_len (spX_len hx hy)) (nat_abs_len (spD_len hu hv)))) (by decide)) (Nat.le_trans (abs_add_len (abs_mul_len (spY_len hu hv) (nat_abs_len (spD_len hx hy))) (abs_mul_len (neg_len (spY_len hx hy)) (nat_abs_len (spD_len hu hv)))) (by decide)) (Nat.le_trans (words_mul_length (spD_len hu hv) (spD_len hx hy)) (by decide)) (Nat.mul_ne_zero (spD_ne u v) (spD_ne x y))) ?_)
  rintro _ w36 ⟨p33_1, p33_c1, p33_2, p33_c2, p33_3, p33_c3, p33_4, p33_c4, rfl, hn34, hb35⟩
  replace hS := hS.call hb35
  replace hS := hS.addR hn34.s1.rd
  replace hS := hS.addR hn34.s2.rd
  replace hS := hS.addR hn34.s3.rd
  replace hS := hS.addR hn34.s4.rd
  refine ⟨_, rfl, (hS.part (.cons _ (.cons_cons _ (.cons_cons _ .slnil))) ⟨⟨13, rfl⟩, ⟨⟨14, rfl⟩, ⟨⟨15, rfl⟩, ⟨⟨16, rfl⟩, ⟨⟨17, rfl⟩, ⟨⟨18, rfl⟩, ⟨⟨19, rfl⟩, ⟨⟨20, rfl⟩, trivial⟩⟩⟩⟩⟩⟩⟩⟩ .slnil), ?_⟩
  intro a hA
  refine any_take (v := .agg #[.bool ((ratS (u - x) (v - y)).1.b1), .slice p33_1 (((ratS (u - x) (v - y)).1.t1).length) p33_c1, .slice p33_2 (((ratS (u - x) (v - y)).1.q1).length) p33_c2, .bool ((ratS (u - x) (v - y)).1.b2), .slice p33_3 (((ratS (u - x) (v - y)).1.t2).length) p33_c3, .slice p33_4 (((ratS (u - x) (v - y)).1.q2).length) p33_c4]) hA 7 rfl rfl rfl rfl (by kernel_rfl) (by kernel_rfl) (by kernel_rfl) (fun c a w h => hP c a _ _ w h) (hS.part (.cons _ (.cons_cons _ (.cons_cons _ .slnil))) ⟨⟨13, rfl⟩, ⟨⟨14, rfl⟩, ⟨⟨15, rfl⟩, ⟨⟨16, rfl⟩, ⟨⟨17, rfl⟩, ⟨⟨18, rfl⟩, ⟨⟨19, rfl⟩, ⟨⟨20, rfl⟩, trivial⟩⟩⟩⟩⟩⟩⟩⟩ .slnil) (fun w1 hS => does_extract (vs := [.agg #[.bool ((ratS (u - x) (v - y)).1.b1), .slice p33_1 (((ratS (u - x) (v - y)).1.t1).length) p33_c1, .slice p33_2 (((ratS (u - x) (v - y)).1.q1).length) p33_c2, .bool ((ratS (u - x) (v - y)).1.b2), .slice p33_3 (((ratS (u - x) (v - y)).1.t2).length) p33_c3, .slice p33_4 (((ratS (u - x) (v - y)).1.q2).length) p33_c4], .int .i64 ((ratS (u - x) (v - y)).2)]) rfl rfl) ?_
  intro a hA
  refine any_take (v := .int .i64 ((ratS (u - x) (v - y)).2)) hA 8 rfl rfl rfl rfl (by kernel_rfl) (by kernel_rfl) (by kernel_rfl) (fun c a w h => hP c a _ _ w h) (hS.part (.cons _ (.cons_cons _ (.cons_cons _ .slnil))) ⟨⟨13, rfl⟩, ⟨⟨14, rfl⟩, ⟨⟨15, rfl⟩, ⟨⟨16, rfl⟩, ⟨⟨17, rfl⟩, ⟨⟨18, rfl⟩, ⟨⟨19, rfl⟩, ⟨⟨20, rfl⟩, trivial⟩⟩⟩⟩⟩⟩⟩⟩ .slnil) (fun w1 hS => does_extract (vs := [.agg #[.bool ((ratS (u - x) (v - y)).1.b1), .slice p33_1 (((ratS (u - x) (v - y)).1.t1).length) p33_c1, .slice p33_2 (((ratS (u - x) (v - y)).1.q1).length) p33_c2, .bool ((ratS (u - x) (v - y)).1.b2), .slice p33_3 (((ratS (u - x) (v - y)).1.t2).length) p33_c3, .slice p33_4 (((ratS (u - x) (v - y)).1.q2).length) p33_c4], .int .i64 ((ratS (u - x) (v - y)).2)]) rfl rfl) ?_
  intro a hA
  refine any_one (by kernel_rfl) (op_store (us := [.bool ((ratS (u - x) (v - y)).1.b1), .slice p33_1 (((ratS (u - x) (v - y)).1.t1).length) p33_c1, .slice p33_2 (((ratS (u - x) (v - y)).1.q1).length) p33_c2, .bool ((ratS (u - x) (v - y)).1.b2), .slice p33_3 (((ratS (u - x) (v - y)).1.t2).length) p33_c3, .slice p33_4 (((ratS (u - x) (v - y)).1.q2).length) p33_c4]) hA hS 9 rfl rfl rfl (sets_store (cs := [.bool ((ratS (u - x) (v - y)).1.b1), .slice p33_1 (((ratS (u - x) (v - y)).1.t1).length) p33_c1, .slice p33_2 (((ratS (u - x) (v - y)).1.q1).length) p33_c2, .bool ((ratS (u - x) (v - y)).1.b2), .slice p33_3 (((ratS (u - x) (v - y)).1.t2).length) p33_c3, .slice p33_4 (((ratS (u - x) (v - y)).1.q2).length) p33_c4]) rfl rfl rfl (by kernel_rfl) hS 0 rfl rfl rfl) 0 rfl rfl rfl rfl ?_)
  intro w37 hS
  refine ⟨(hS.part (.cons _ (.cons_cons _ (.cons_cons _ .slnil))) ⟨⟨13, rfl⟩, ⟨⟨14, rfl⟩, ⟨⟨15, rfl⟩, ⟨⟨16, rfl⟩, ⟨⟨17, rfl⟩, ⟨⟨18, rfl⟩, ⟨⟨19, rfl⟩, ⟨⟨20, rfl⟩, trivial⟩⟩⟩⟩⟩⟩⟩⟩ .slnil), ?_⟩
  refine any_take hA 10 rfl rfl rfl rfl (by kernel_rfl) (by kernel_rfl) (by kernel_rfl) (fun c a w h => hP c a _ _ w h) (hS.part (.cons _ (.cons_cons _ (.cons_cons _ .slnil))) ⟨⟨13, rfl⟩, ⟨⟨14, rfl⟩, ⟨⟨15, rfl⟩, ⟨⟨16, rfl⟩, ⟨⟨17, rfl⟩, ⟨⟨18, rfl⟩, ⟨⟨19, rfl⟩, ⟨⟨20, rfl⟩, trivial⟩⟩⟩⟩⟩⟩⟩⟩ .slnil) (fun w1 hS => does_assign rfl) ?_
  intro a hA
  refine any_end (by kernel_rfl) ?_
  refine hK14 _ _ ?_
  refine wp_ret ?_
  refine hret _ _ ?_
  refine ends (v := .tuple #[.agg #[.bool ((ratS (u - x) (v - y)).1.b1), .slice p33_1 (((ratS (u - x) (v - y)).1.t1).length) p33_c1, .slice p33_2 (((ratS (u - x) (v - y)).1.q1).length) p33_c2, .bool ((ratS (u - x) (v - y)).1.b2), .slice p33_3 (((ratS (u - x) (v - y)).1.t2).length) p33_c3, .slice p33_4 (((ratS (u - x) (v - y)).1.q2).length) p33_c4], .int .i64 ((ratS (u - x) (v - y)).2)]) hA rfl (.cons (res_cell hS ExL_isS_26 rfl 0 rfl (cs := [.bool ((ratS (u - x) (v - y)).1.b1), .slice p33_1 (((ratS (u - x) (v - y)).1.t1).length) p33_c1, .slice p33_2 (((ratS (u - x) (v - y)).1.q1).length) p33_c2, .bool ((ratS (u - x) (v - y)).1.b2), .slice p33_3 (((ratS (u - x) (v - y)).1.t2).length) p33_c3, .slice p33_4 (((ratS (u - x) (v - y)).1.q2).length) p33_c4]) rfl rfl) (.cons (res_tmp rfl) .nil)) rfl ?_
  exact ⟨p33_1, p33_c1, p33_2, p33_c2, p33_3, p33_c3, p33_4, p33_c4, rfl, ⟨⟨(hS.rd 3 rfl), hn34.s1.nil, hn34.s1.cap⟩, ⟨(hS.rd 2 rfl), hn34.s2.nil, hn34.s2.cap⟩, ⟨(hS.rd 1 rfl), hn34.s3.nil, hn34.s3.cap⟩, ⟨(hS.rd 0 rfl), hn34.s4.nil, hn34.s4.cap⟩⟩, hS.bel⟩
theorem reckonSQ_any {w : World} {p q : Q6} {a1 a2 a3 a4 : Option Addr} {ac1 ac2 ac3 ac4 : Nat} (ha : Nm w p a1 ac1 a2 ac2 a3 ac3 a4 ac4) (hl : LenQ p) {u1 u2 u3 u4 : Option Addr} {uc1 uc2 uc3 uc4 : Nat} (hb : Nm w q u1 uc1 u2 uc2 u3 uc3 u4 uc4) (hm : LenQ q) : Calls Try.prog 29 #[.func (.func 32) #[] #[], numV p a1 ac1 a2 ac2 a3 ac3 a4 ac4, numV q u1 uc1 u2 uc2 u3 uc3 u4 uc4] w (AnsN w (subQ p q)) := by
  rcases sound_cases ha with h1 | ⟨u, v, rfl, hu, hv⟩
  · rw [show subQ p q = (Q6.zero, 2) from if_neg (fun k => by rw [h1] at k; cases k.1)]
    exact reckonE1_any ha hl hb hm h1
  · rcases sound_cases hb with h2 | ⟨x, y, rfl, hx, hy⟩
    · rw [show subQ _ q = (Q6.zero, 2) from if_neg (fun k => by rw [h2] at k; cases k.2)]
      exact reckonE2_any ha hl hb hm (soundQ_rat hu hv) h2
    · rw [subQ_rat hu hv hx hy]
      exact reckonS_any ha hb hu hv hx hy
theorem subQ_any {w : World} {p q : Q6} {a1 a2 a3 a4 : Option Addr} {ac1 ac2 ac3 ac4 : Nat} (ha : Nm w p a1 ac1 a2 ac2 a3 ac3 a4 ac4) (hl : LenQ p) {u1 u2 u3 u4 : Option Addr} {uc1 uc2 uc3 uc4 : Nat} (hb : Nm w q u1 uc1 u2 uc2 u3 uc3 u4 uc4) (hm : LenQ q) : Calls Try.prog 12 #[numV p a1 ac1 a2 ac2 a3 ac3 a4 ac4, numV q u1 uc1 u2 uc2 u3 uc3 u4 uc4] w (AnsN w (subQ p q)) := by
  have hS : St w w [] [(u4, q.q2), (u3, q.t2), (u2, q.q1), (u1, q.t1), (a4, p.q2), (a3, p.t2), (a2, p.q1), (a1, p.t1)] [] := ((((((((St.start w).addR ha.s1.rd).addR ha.s2.rd).addR ha.s3.rd).addR ha.s4.rd).addR hb.s1.rd).addR hb.s2.rd).addR hb.s3.rd).addR hb.s4.rd
  refine walk_of (l := [(0, .agg #[.bool p.b1, .slice a1 p.t1.length ac1, .slice a2 p.q1.length ac2, .bool p.b2, .slice a3 p.t2.length ac3, .slice a4 p.q2.length ac4]), (1, .agg #[.bool q.b1, .slice u1 q.t1.length uc1, .slice u2 q.q1.length uc2, .bool q.b2, .slice u3 q.t2.length uc3, .slice u4 q.q2.length uc4])]) Try.func12 rfl Try.ntmps12 rfl rfl ?_
  intro Q hret hnorm hP a hA
  refine wp_seq_k (fun K1 hK1 => ?_)
  refine wp_region_lit ?_
  refine seq_new (vs := [.bool p.b1, .slice a1 p.t1.length ac1, .slice a2 p.q1.length ac2, .bool p.b2, .slice a3 p.t2.length ac3, .slice a4 p.q2.length ac4]) (t := 26) hA hS rfl rfl rfl (fun g => .pointer (some ⟨g, 0, none⟩)) (does_box rfl rfl) rfl ?_
  intro g2 w3 hS a hA
  refine seq_new (vs := [.bool q.b1, .slice u1 q.t1.length uc1, .slice u2 q.q1.length uc2, .bool q.b2, .slice u3 q.t2.length uc3, .slice u4 q.q2.length uc4]) (t := 26) hA hS rfl rfl rfl (fun g => .pointer (some ⟨g, 0, none⟩)) (does_box rfl rfl) rfl ?_
  intro g4 w5 hS a hA
  refine seq_new (vs := [.bool false, .slice none 0 0, .slice none 0 0, .bool false, .slice none 0 0, .slice none 0 0]) (t := 26) hA hS rfl rfl rfl (fun g => .pointer (some ⟨g, 0, none⟩)) (does_alloc (z := .agg #[.bool false, .slice none 0 0, .slice none 0 0, .bool false, .slice none 0 0, .slice none 0 0]) (by kernel_rfl) rfl) rfl ?_
  intro g6 w7 hS a hA
  refine seq_do hA rfl rfl rfl (does_assign rfl) ?_
  intro a hA
  refine seq_end ?_
  refine hK1 _ _ ?_
  refine wp_seq_k (fun K8 hK8 => ?_)
  refine wp_region_lit ?_
  refine seq_do (v := .agg #[.bool p.b1, .slice a1 p.t1.length ac1, .slice a2 p.q1.length ac2, .bool p.b2, .slice a3 p.t2.length ac3, .slice a4 p.q2.length ac4]) hA rfl rfl rfl (does_loadS hS ExL_isS_26 rfl 2 rfl (cs := [.bool p.b1, .slice a1 p.t1.length ac1, .slice a2 p.q1.length ac2, .bool p.b2, .slice a3 p.t2.length ac3, .slice a4 p.q2.length ac4]) rfl rfl) ?_
  intro a hA
  refine seq_do (v := .agg #[.bool q.b1, .slice u1 q.t1.length uc1, .slice u2 q.q1.length uc2, .bool q.b2, .slice u3 q.t2.length uc3, .slice u4 q.q2.length uc4]) hA rfl rfl rfl (does_loadS hS ExL_isS_26 rfl 1 rfl (cs := [.bool q.b1, .slice u1 q.t1.length uc1, .slice u2 q.q1.length uc2, .bool q.b2, .slice u3 q.t2.length uc3, .slice u4 q.q2.length uc4]) rfl rfl) ?_
  intro a hA
  refine seq_call hA rfl rfl rfl (enters_func  rfl rfl (fun w => by kernel_rfl)) (reckonSQ_any (show Nm _ p a1 ac1 a2 ac2 a3 ac3 a4 ac4 from ⟨⟨(hS.rd 7 rfl), ha.s1.nil, ha.s1.cap⟩, ⟨(hS.rd 6 rfl), ha.s2.nil, ha.s2.cap⟩, ⟨(hS.rd 5 rfl), ha.s3.nil, ha.s3.cap⟩, ⟨(hS.rd 4 rfl), ha.s4.nil, ha.s4.cap⟩⟩) hl (show Nm _ q u1 uc1 u2 uc2 u3 uc3 u4 uc4 from ⟨⟨(hS.rd 3 rfl), hb.s1.nil, hb.s1.cap⟩, ⟨(hS.rd 2 rfl), hb.s2.nil, hb.s2.cap⟩, ⟨(hS.rd 1 rfl), hb.s3.nil, hb.s3.cap⟩, ⟨(hS.rd 0 rfl), hb.s4.nil, hb.s4.cap⟩⟩) hm) ?_
  rintro _ w12 ⟨p9_1, p9_c1, p9_2, p9_c2, p9_3, p9_c3, p9_4, p9_c4, rfl, hn10, hb11⟩
  replace hS := hS.call hb11
  replace hS := hS.addR hn10.s1.rd
  replace hS := hS.addR hn10.s2.rd
  replace hS := hS.addR hn10.s3.rd
  replace hS := hS.addR hn10.s4.rd
  refine ⟨_, rfl, ?_⟩
  intro a hA
  refine seq_do (v := .agg #[.bool ((subQ p q).1.b1), .slice p9_1 (((subQ p q).1.t1).length) p9_c1, .slice p9_2 (((subQ p q).1.q1).length) p9_c2, .bool ((subQ p q).1.b2), .slice p9_3 (((subQ p q).1.t2).length) p9_c3, .slice p9_4 (((subQ p q).1.q2).length) p9_c4]) hA rfl rfl rfl (does_extract (vs := [.agg #[.bool ((subQ p q).1.b1), .slice p9_1 (((subQ p q).1.t1).length) p9_c1, .slice p9_2 (((subQ p q).1.q1).length) p9_c2, .bool ((subQ p q).1.b2), .slice p9_3 (((subQ p q).1.t2).length) p9_c3, .slice p9_4 (((subQ p q).1.q2).length) p9_c4], .int .i64 ((subQ p q).2)]) rfl rfl) ?_
  intro a hA
  refine seq_do (v := .int .i64 ((subQ p q).2)) hA rfl rfl rfl (does_extract (vs := [.agg #[.bool ((subQ p q).1.b1), .slice p9_1 (((subQ p q).1.t1).length) p9_c1, .slice p9_2 (((subQ p q).1.q1).length) p9_c2, .bool ((subQ p q).1.b2), .slice p9_3 (((subQ p q).1.t2).length) p9_c3, .slice p9_4 (((subQ p q).1.q2).length) p9_c4], .int .i64 ((subQ p q).2)]) rfl rfl) ?_
  intro a hA
  refine seq_store (us := [.bool ((subQ p q).1.b1), .slice p9_1 (((subQ p q).1.t1).length) p9_c1, .slice p9_2 (((subQ p q).1.q1).length) p9_c2, .bool ((subQ p q).1.b2), .slice p9_3 (((subQ p q).1.t2).length) p9_c3, .slice p9_4 (((subQ p q).1.q2).length) p9_c4]) hA hS rfl rfl (sets_store (cs := [.bool ((subQ p q).1.b1), .slice p9_1 (((subQ p q).1.t1).length) p9_c1, .slice p9_2 (((subQ p q).1.q1).length) p9_c2, .bool ((subQ p q).1.b2), .slice p9_3 (((subQ p q).1.t2).length) p9_c3, .slice p9_4 (((subQ p q).1.q2).length) p9_c4]) rfl rfl rfl (by kernel_rfl) hS 0 rfl rfl rfl) 0 rfl rfl rfl rfl ?_
  intro w13 hS
  refine seq_do hA rfl rfl rfl (does_assign rfl) ?_
  intro a hA
  refine seq_end ?_
  refine hK8 _ _ ?_
  refine wp_ret ?_
  refine hret _ _ ?_
  refine ends (v := .tuple #[.agg #[.bool ((subQ p q).1.b1), .slice p9_1 (((subQ p q).1.t1).length) p9_c1, .slice p9_2 (((subQ p q).1.q1).length) p9_c2, .bool ((subQ p q).1.b2), .slice p9_3 (((subQ p q).1.t2).length) p9_c3, .slice p9_4 (((subQ p q).1.q2).length) p9_c4], .int .i64 ((subQ p q).2)]) hA rfl (.cons (res_cell hS ExL_isS_26 rfl 0 rfl (cs := [.bool ((subQ p q).1.b1), .slice p9_1 (((subQ p q).1.t1).length) p9_c1, .slice p9_2 (((subQ p q).1.q1).length) p9_c2, .bool ((subQ p q).1.b2), .slice p9_3 (((subQ p q).1.t2).length) p9_c3, .slice p9_4 (((subQ p q).1.q2).length) p9_c4]) rfl rfl) (.cons (res_tmp rfl) .nil)) rfl ?_
  exact ⟨p9_1, p9_c1, p9_2, p9_c2, p9_3, p9_c3, p9_4, p9_c4, rfl, ⟨⟨(hS.rd 3 rfl), hn10.s1.nil, hn10.s1.cap⟩, ⟨(hS.rd 2 rfl), hn10.s2.nil, hn10.s2.cap⟩, ⟨(hS.rd 1 rfl), hn10.s3.nil, hn10.s3.cap⟩, ⟨(hS.rd 0 rfl), hn10.s4.nil, hn10.s4.cap⟩⟩, hS.bel⟩
theorem reckonM_any {w : World} {u v x y : Rat} {a1 a2 a3 a4 : Option Addr} {ac1 ac2 ac3 ac4 : Nat} (ha : Nm w (Q6.rat u v) a1 ac1 a2 ac2 a3 ac3 a4 ac4) {u1 u2 u3 u4 : Option Addr} {uc1 uc2 uc3 uc4 : Nat} (hb : Nm w (Q6.rat x y) u1 uc1 u2 uc2 u3 uc3 u4 uc4) (hu : fitR u) (hv : fitR v) (hx : fitR x) (hy : fitR y) : Calls Try.prog 29 #[.func (.func 31) #[] #[], numV (Q6.rat u v) a1 ac1 a2 ac2 a3 ac3 a4 ac4, numV (Q6.rat x y) u1 uc1 u2 uc2 u3 uc3 u4 uc4] w (AnsN w (ratS (u * x - v * y) (u * y + v * x))) := by
  have hS : St w w [] [(u4, words y.den), (u3, words y.num.natAbs), (u2, words x.den), (u1, words x.num.natAbs), (a4, words v.den), (a3, words v.num.natAbs), (a2, words u.den), (a1, words u.num.natAbs)] [] := ((((((((St.start w).addR ha.s1.rd).addR ha.s2.rd).addR ha.s3.rd).addR ha.s4.rd).addR hb.s1.rd).addR hb.s2.rd).addR hb.s3.rd).addR hb.s4.rd
  refine walk_of (l := [(0, .func (.func 31) #[] #[]), (1, .agg #[.bool (rb u.num), .slice a1 ((words u.num.natAbs).length) ac1, .slice a2 ((words u.den).length) ac2, .bool (rb v.num), .slice a3 ((words v.num.natAbs).length) ac3, .slice a4 ((words v.den).length) ac4]), (2, .agg #[.bool (rb x.num), .slice u1 ((words x.num.natAbs).length) uc1, .slice u2 ((words x.den).length) uc2, .bool (rb y.num), .slice u3 ((words y.num.natAbs).length) uc3, .slice u4 ((words y.den).length) uc4])]) Try.func29 rfl Try.ntmps29 rfl rfl ?_
  intro Q hret hnorm hP a hA
  refine wp_seq_k (fun K1 hK1 => ?_)
  refine wp_region_lit ?_
  refine seq_new (vs := [.bool (rb u.num), .slice a1 ((words u.num.natAbs).length) ac1, .slice a2 ((words u.den).length) ac2, .bool (rb v.num), .slice a3 ((words v.num.natAbs).length) ac3, .slice a4 ((words v.den).length) ac4]) (t := 26) hA hS rfl rfl rfl (fun g => .pointer (some ⟨g, 0, none⟩)) (does_box rfl rfl) rfl ?_
  intro g2 w3 hS a hA
  refine seq_new (vs := [.bool (rb x.num), .slice u1 ((words x.num.natAbs).length) uc1, .slice u2 ((words x.den).length) uc2, .bool (rb y.num), .slice u3 ((words y.num.natAbs).length) uc3, .slice u4 ((words y.den).length) uc4]) (t := 26) hA hS rfl rfl rfl (fun g => .pointer (some ⟨g, 0, none⟩)) (does_box rfl rfl) rfl ?_
  intro g4 w5 hS a hA
  refine seq_new (vs := [.bool false, .slice none 0 0, .slice none 0 0, .bool false, .slice none 0 0, .slice none 0 0]) (t := 26) hA hS rfl rfl rfl (fun g => .pointer (some ⟨g, 0, none⟩)) (does_alloc (z := .agg #[.bool false, .slice none 0 0, .slice none 0 0, .bool false, .slice none 0 0, .slice none 0 0]) (by kernel_rfl) rfl) rfl ?_
  intro g6 w7 hS a hA
  refine seq_do hA rfl rfl rfl (does_assign rfl) ?_
  intro a hA
  refine seq_end ?_
  refine hK1 _ _ ?_
  refine wp_seq_k (fun K8 hK8 => ?_)
  refine wp_seq_k (fun K9 hK9 => ?_)
  refine wp_region_lit ?_
  refine seq_do (v := .agg #[.bool (rb u.num), .slice a1 ((words u.num.natAbs).length) ac1, .slice a2 ((words u.den).length) ac2, .bool (rb v.num), .slice a3 ((words v.num.natAbs).length) ac3, .slice a4 ((words v.den).length) ac4]) hA rfl rfl rfl (does_loadS hS ExL_isS_26 rfl 2 rfl (cs := [.bool (rb u.num), .slice a1 ((words u.num.natAbs).length) ac1, .slice a2 ((words u.den).length) ac2, .bool (rb v.num), .slice a3 ((words v.num.natAbs).length) ac3, .slice a4 ((words v.den).length) ac4]) rfl rfl) ?_
  intro a hA
  refine seq_call hA rfl rfl rfl (enters_func  rfl rfl (fun w => by kernel_rfl)) (soundQ_any (show Nm _ (Q6.rat u v) a1 ac1 a2 ac2 a3 ac3 a4 ac4 from ⟨⟨(hS.rd 7 rfl), ha.s1.nil, ha.s1.cap⟩, ⟨(hS.rd 6 rfl), ha.s2.nil, ha.s2.cap⟩, ⟨(hS.rd 5 rfl), ha.s3.nil, ha.s3.cap⟩, ⟨(hS.rd 4 rfl), ha.s4.nil, ha.s4.cap⟩⟩) (lenQ_rat hu hv) (soundQ_rat hu hv)) ?_
  rintro _ w11 ⟨rfl, hb10⟩
  replace hS := hS.call hb10
  refine ⟨_, rfl, ?_⟩
  intro a hA
  refine seq_do (v := .bool false) hA rfl rfl rfl (does_un rfl un_not) ?_
  intro a hA
  refine seq_do hA rfl rfl rfl (does_move rfl) ?_
  intro a hA
  refine seq_do (v := .agg #[.bool (rb x.num), .slice u1 ((words x.num.natAbs).length) uc1, .slice u2 ((words x.den).length) uc2, .bool (rb y.num), .slice u3 ((words y.num.natAbs).length) uc3, .slice u4 ((words y.den).length) uc4]) hA rfl rfl rfl (does_loadS hS ExL_isS_26 rfl 1 rfl (cs := [.bool (rb x.num), .slice u1 ((words x.num.natAbs).length) uc1, .slice u2 ((words x.den).length) uc2, .bool (rb y.num), .slice u3 ((words y.num.natAbs).length) uc3, .slice u4 ((words y.den).length) uc4]) rfl rfl) ?_
  intro a hA
  refine seq_call hA rfl rfl rfl (enters_func  rfl rfl (fun w => by kernel_rfl)) (soundQ_any (show Nm _ (Q6.rat x y) u1 uc1 u2 uc2 u3 uc3 u4 uc4 from ⟨⟨(hS.rd 3 rfl), hb.s1.nil, hb.s1.cap⟩, ⟨(hS.rd 2 rfl), hb.s2.nil, hb.s2.cap⟩, ⟨(hS.rd 1 rfl), hb.s3.nil, hb.s3.cap⟩, ⟨(hS.rd 0 rfl), hb.s4.nil, hb.s4.cap⟩⟩) (lenQ_rat hx hy) (soundQ_rat hx hy)) ?_
  rintro _ w13 ⟨rfl, hb12⟩
  replace hS := hS.call hb12
  refine ⟨_, rfl, ?_⟩
  intro a hA
  refine seq_do (v := .bool false) hA rfl rfl rfl (does_un rfl un_not) ?_
  intro a hA
  refine seq_do (v := .bool false) hA rfl rfl rfl (does_pick rfl rfl rfl rfl) ?_
  intro a hA
  refine seq_end ?_
  refine hK9 _ _ ?_
  refine wp_cond_false (hA.ev rfl) ?_
  refine wp_skip ?_
  refine hK8 _ _ ?_
  refine wp_seq_k (fun K14 hK14 => ?_)
  refine wp_draw (S := fun w1 => St w w1 [(g4, [.bool (rb x.num), .slice u1 ((words x.num.natAbs).length) uc1, .slice u2 ((words x.den).length) uc2, .bool (rb y.num), .slice u3 ((words y.num.natAbs).length) uc3, .slice u4 ((words y.den).length) uc4]), (g2, [.bool (rb u.num), .slice a1 ((words u.num.natAbs).length) ac1, .slice a2 ((words u.den).length) ac2, .bool (rb v.num), .slice a3 ((words v.num.natAbs).length) ac3, .slice a4 ((words v.den).length) ac4])] [(u4, words y.den), (u3, words y.num.natAbs), (u2, words x.den), (u1, words x.num.natAbs), (a4, words v.den), (a3, words v.num.natAbs), (a2, words u.den), (a1, words u.num.natAbs)] []) (by kernel_rfl) ?_
  replace hS := hS.drew
  refine any_take hA 0 rfl rfl rfl rfl (by kernel_rfl) (by kernel_rfl) (by kernel_rfl) (fun c a w h => hP c a _ _ w h) (hS.part (.cons _ (.cons_cons _ (.cons_cons _ .slnil))) ⟨⟨0, rfl⟩, ⟨⟨1, rfl⟩, ⟨⟨2, rfl⟩, ⟨⟨3, rfl⟩, ⟨⟨4, rfl⟩, ⟨⟨5, rfl⟩, ⟨⟨6, rfl⟩, ⟨⟨7, rfl⟩, trivial⟩⟩⟩⟩⟩⟩⟩⟩ .slnil) (fun w1 hS => does_move rfl) ?_
  intro a hA
  refine any_take (v := .agg #[.bool (rb u.num), .slice a1 ((words u.num.natAbs).length) ac1, .slice a2 ((words u.den).length) ac2, .bool (rb v.num), .slice a3 ((words v.num.natAbs).length) ac3, .slice a4 ((words v.den).length) ac4]) hA 1 rfl rfl rfl rfl (by kernel_rfl) (by kernel_rfl) (by kernel_rfl) (fun c a w h => hP c a _ _ w h) (hS.part (.cons _ (.cons_cons _ (.cons_cons _ .slnil))) ⟨⟨0, rfl⟩, ⟨⟨1, rfl⟩, ⟨⟨2, rfl⟩, ⟨⟨3, rfl⟩, ⟨⟨4, rfl⟩, ⟨⟨5, rfl⟩, ⟨⟨6, rfl⟩, ⟨⟨7, rfl⟩, trivial⟩⟩⟩⟩⟩⟩⟩⟩ .slnil) (fun w1 hS => does_loadS hS ExL_isS_26 rfl 1 rfl (cs := [.bool (rb u.num), .slice a1 ((words u.num.natAbs).length) ac1, .slice a2 ((words u.den).length) ac2, .bool (rb v.num), .slice a3 ((words v.num.natAbs).length) ac3, .slice a4 ((words v.den).length) ac4]) rfl rfl) ?_
  intro a hA
  refine any_take (v := .agg #[.bool (rb x.num), .slice u1 ((words x.num.natAbs).length) uc1, .slice u2 ((words x.den).length) uc2, .bool (rb y.num), .slice u3 ((words y.num.natAbs).length) uc3, .slice u4 ((words y.den).length) uc4]) hA 3 rfl rfl rfl rfl (by kernel_rfl) (by kernel_rfl) (by kernel_rfl) (fun c a w h => hP c a _ _ w h) (hS.part (.cons _ (.cons_cons _ (.cons_cons _ .slnil))) ⟨⟨0, rfl⟩, ⟨⟨1, rfl⟩, ⟨⟨2, rfl⟩, ⟨⟨3, rfl⟩, ⟨⟨4, rfl⟩, ⟨⟨5, rfl⟩, ⟨⟨6, rfl⟩, ⟨⟨7, rfl⟩, trivial⟩⟩⟩⟩⟩⟩⟩⟩ .slnil) (fun w1 hS => does_loadS hS ExL_isS_26 rfl 0 rfl (cs := [.bool (rb x.num), .slice u1 ((words x.num.natAbs).length) uc1, .slice u2 ((words x.den).length) uc2, .bool (rb y.num), .slice u3 ((words y.num.natAbs).length) uc3, .slice u4 ((words y.den).length) uc4]) rfl rfl) ?_
  intro a hA
  refine any_one (by kernel_rfl) (op_call hA 2 rfl rfl rfl rfl (enters_func  rfl rfl (fun w => by kernel_rfl)) (zspread_any (show Nm _ (Q6.rat u v) a1 ac1 a2 ac2 a3 ac3 a4 ac4 from ⟨⟨(hS.rd 7 rfl), ha.s1.nil, ha.s1.cap⟩, ⟨(hS.rd 6 rfl), ha.s2.nil, ha.s2.cap⟩, ⟨(hS.rd 5 rfl), ha.s3.nil, ha.s3.cap⟩, ⟨(hS.rd 4 rfl), ha.s4.nil, ha.s4.cap⟩⟩) hu hv) ?_)
  rintro _ w20 ⟨p15_1, p15_c1, p15_2, p15_c2, p15_3, p15_c3, rfl, hs16, hs17, hs18, hb19⟩
  replace hS := hS.call hb19
  replace hS := hS.addR hs16.rd
  replace hS := hS.addR hs17.rd
  replace hS := hS.addR hs18.rd
  refine ⟨_, rfl, (hS.part (.cons _ (.cons_cons _ (.cons_cons _ .slnil))) ⟨⟨3, rfl⟩, ⟨⟨4, rfl⟩, ⟨⟨5, rfl⟩, ⟨⟨6, rfl⟩, ⟨⟨7, rfl⟩, ⟨⟨8, rfl⟩, ⟨⟨9, rfl⟩, ⟨⟨10, rfl⟩, trivial⟩⟩⟩⟩⟩⟩⟩⟩ .slnil), ?_⟩
  intro a hA
  refine any_one (by kernel_rfl) (op_call hA 4 rfl rfl rfl rfl (enters_func  rfl rfl (fun w => by kernel_rfl)) (zspread_any (show Nm _ (Q6.rat x y) u1 uc1 u2 uc2 u3 uc3 u4 uc4 from ⟨⟨(hS.rd 6 rfl), hb.s1.nil, hb.s1.cap⟩, ⟨(hS.rd 5 rfl), hb.s2.nil, hb.s2.cap⟩, ⟨(hS.rd 4 rfl), hb.s3.nil, hb.s3.cap⟩, ⟨(hS.rd 3 rfl), hb.s4.nil, hb.s4.cap⟩⟩) hx hy) ?_)
  rintro _ w26 ⟨p21_1, p21_c1, p21_2, p21_c2, p21_3, p21_c3, rfl, hs22, hs23, hs24, hb25⟩
  replace hS := hS.call hb25
  replace hS := hS.addR hs22.rd
  replace hS := hS.addR hs23.rd
  replace hS := hS.addR hs24.rd
  refine ⟨_, rfl, (hS.part (.cons _ (.cons_cons _ (.cons_cons _ .slnil))) ⟨⟨6, rfl⟩, ⟨⟨7, rfl⟩, ⟨⟨8, rfl⟩, ⟨⟨9, rfl⟩, ⟨⟨10, rfl⟩, ⟨⟨11, rfl⟩, ⟨⟨12, rfl⟩, ⟨⟨13, rfl⟩, trivial⟩⟩⟩⟩⟩⟩⟩⟩ .slnil), ?_⟩
  intro a hA
  refine any_one (by kernel_rfl) (op_call hA 5 rfl rfl rfl rfl (enters_func  rfl rfl (fun w => by kernel_rfl)) (zproduct_any ⟨(hS.rd 5 rfl), hs16.nil, hs16.cap⟩ ⟨(hS.rd 4 rfl), hs17.nil, hs17.cap⟩ ⟨(hS.rd 3 rfl), hs18.nil, hs18.cap⟩ ⟨(hS.rd 2 rfl), hs22.nil, hs22.cap⟩ ⟨(hS.rd 1 rfl), hs23.nil, hs23.cap⟩ ⟨(hS.rd 0 rfl), hs24.nil, hs24.cap⟩ (Nat.le_trans (spX_len hu hv) (by decide)) (Nat.le_trans (spY_len hu hv) (by decide)) (Nat.le_trans (spD_len hu hv) (by decide)) (Nat.le_trans (spX_len hx hy) (by decide)) (Nat.le_trans (spY_len hx hy) (by decide)) (Nat.le_trans (spD_len hx hy) (by decide))) ?_)
  rintro _ w32 ⟨p27_1, p27_c1, p27_2, p27_c2, p27_3, p27_c3, rfl, hs28, hs29, hs30, hb31⟩
  replace hS := hS.call hb31
  replace hS := hS.addR hs28.rd
  replace hS := hS.addR hs29.rd
  replace hS := hS.addR hs30.rd
  refine ⟨_, rfl, (hS.part (.cons _ (.cons_cons _ (.cons_cons _ .slnil))) ⟨⟨9, rfl⟩, ⟨⟨10, rfl⟩, ⟨⟨11, rfl⟩, ⟨⟨12, rfl⟩, ⟨⟨13, rfl⟩, ⟨⟨14, rfl⟩, ⟨⟨15, rfl⟩, ⟨⟨16, rfl⟩, trivial⟩⟩⟩⟩⟩⟩⟩⟩ .slnil), ?_⟩
  intro a hA
  refine any_one (by kernel_rfl) (op_call hA 6 rfl rfl rfl rfl (enters_func  rfl rfl (fun w => by kernel_rfl)) (zsettle_as ⟨(hS.rd 2 rfl), hs28.nil, hs28.cap⟩ ⟨(hS.rd 1 rfl), hs29.nil, hs29.cap⟩ ⟨(hS.rd 0 rfl), hs30.nil, hs30.cap⟩ (set_mul (spD_ne u v) (spD_ne x y) (spX_mk u v) (spY_mk u v) (spX_mk x y) (spY_mk x y)) (Nat.le_trans (abs_add_len (abs_mul_len (spX_len hu hv) (spX_len hx hy)) (neg_len (abs_mul_len (spY_len hu hv) (spY_len hx hy)))) (by decide)) (Nat.le_trans (abs_add_len (abs_mul_len (spX_len hu hv) (spY_len hx hy)) (abs_mul_len (spY_len hu hv) (spX_len hx hy))) (by decide)) (Nat.le_trans (words_mul_length (spD_len hu hv) (spD_len hx hy)) (by decide)) (Nat.mul_ne_zero (spD_ne u v) (spD_ne x y))) ?_)
  rintro _ w36 ⟨p33_1, p33_c1, p33_2, p33_c2, p33_3, p33_c3, p33_4, p33_c4, rfl, hn34, hb35⟩
  replace hS := hS.call hb35
  replace hS := hS.addR hn34.s1.rd
  replace hS := hS.addR hn34.s2.rd
  replace hS := hS.addR hn34.s3.rd
  replace hS := hS.addR hn34.s4.rd
  refine ⟨_, rfl, (hS.part (.cons _ (.cons_cons _ (.cons_cons _ .slnil))) ⟨⟨13, rfl⟩, ⟨⟨14, rfl⟩, ⟨⟨15, rfl⟩, ⟨⟨16, rfl⟩, ⟨⟨17, rfl⟩, ⟨⟨18, rfl⟩, ⟨⟨19, rfl⟩, ⟨⟨20, rfl⟩, trivial⟩⟩⟩⟩⟩⟩⟩⟩ .slnil), ?_⟩
  intro a hA
  refine any_take (v := .agg #[.bool ((ratS (u * x - v * y) (u * y + v * x)).1.b1), .slice p33_1 (((ratS (u * x - v * y) (u * y + v * x)).1.t1).length) p33_c1, .slice p33_2 (((ratS (u * x - v * y) (u * y + v * x)).1.q1).length) p33_c2, .bool ((ratS (u * x - v * y) (u * y + v * x)).1.b2), .slice p33_3 (((ratS (u * x - v * y) (u * y + v * x)).1.t2).length) p33_c3, .slice p33_4 (((ratS (u * x - v * y) (u * y + v * x)).1.q2).length) p33_c4]) hA 7 rfl rfl rfl rfl (by kernel_rfl) (by kernel_rfl) (by kernel_rfl) (fun c a w h => hP c a _ _ w h) (hS.part (.cons _ (.cons_cons _ (.cons_cons _ .slnil))) ⟨⟨13, rfl⟩, ⟨⟨14, rfl⟩, ⟨⟨15, rfl⟩, ⟨⟨16, rfl⟩, ⟨⟨17, rfl⟩, ⟨⟨18, rfl⟩, ⟨⟨19, rfl⟩, ⟨⟨20, rfl⟩, trivial⟩⟩⟩⟩⟩⟩⟩⟩ .slnil) (fun w1 hS => does_extract (vs := [.agg #[.bool ((ratS (u * x - v * y) (u * y + v * x)).1.b1), .slice p33_1 (((ratS (u * x - v * y) (u * y + v * x)).1.t1).length) p33_c1, .slice p33_2 (((ratS (u * x - v * y) (u * y + v * x)).1.q1).length) p33_c2, .bool ((ratS (u * x - v * y) (u * y + v * x)).1.b2), .slice p33_3 (((ratS (u * x - v * y) (u * y + v * x)).1.t2).length) p33_c3, .slice p33_4 (((ratS (u * x - v * y) (u * y + v * x)).1.q2).length) p33_c4], .int .i64 ((ratS (u * x - v * y) (u * y + v * x)).2)]) rfl rfl) ?_
  intro a hA
  refine any_take (v := .int .i64 ((ratS (u * x - v * y) (u * y + v * x)).2)) hA 8 rfl rfl rfl rfl (by kernel_rfl) (by kernel_rfl) (by kernel_rfl) (fun c a w h => hP c a _ _ w h) (hS.part (.cons _ (.cons_cons _ (.cons_cons _ .slnil))) ⟨⟨13, rfl⟩, ⟨⟨14, rfl⟩, ⟨⟨15, rfl⟩, ⟨⟨16, rfl⟩, ⟨⟨17, rfl⟩, ⟨⟨18, rfl⟩, ⟨⟨19, rfl⟩, ⟨⟨20, rfl⟩, trivial⟩⟩⟩⟩⟩⟩⟩⟩ .slnil) (fun w1 hS => does_extract (vs := [.agg #[.bool ((ratS (u * x - v * y) (u * y + v * x)).1.b1), .slice p33_1 (((ratS (u * x - v * y) (u * y + v * x)).1.t1).length) p33_c1, .slice p33_2 (((ratS (u * x - v * y) (u * y + v * x)).1.q1).length) p33_c2, .bool ((ratS (u * x - v * y) (u * y + v * x)).1.b2), .slice p33_3 (((ratS (u * x - v * y) (u * y + v * x)).1.t2).length) p33_c3, .slice p33_4 (((ratS (u * x - v * y) (u * y + v * x)).1.q2).length) p33_c4], .int .i64 ((ratS (u * x - v * y) (u * y + v * x)).2)]) rfl rfl) ?_
  intro a hA
  refine any_one (by kernel_rfl) (op_store (us := [.bool ((ratS (u * x - v * y) (u * y + v * x)).1.b1), .slice p33_1 (((ratS (u * x - v * y) (u * y + v * x)).1.t1).length) p33_c1, .slice p33_2 (((ratS (u * x - v * y) (u * y + v * x)).1.q1).length) p33_c2, .bool ((ratS (u * x - v * y) (u * y + v * x)).1.b2), .slice p33_3 (((ratS (u * x - v * y) (u * y + v * x)).1.t2).length) p33_c3, .slice p33_4 (((ratS (u * x - v * y) (u * y + v * x)).1.q2).length) p33_c4]) hA hS 9 rfl rfl rfl (sets_store (cs := [.bool ((ratS (u * x - v * y) (u * y + v * x)).1.b1), .slice p33_1 (((ratS (u * x - v * y) (u * y + v * x)).1.t1).length) p33_c1, .slice p33_2 (((ratS (u * x - v * y) (u * y + v * x)).1.q1).length) p33_c2, .bool ((ratS (u * x - v * y) (u * y + v * x)).1.b2), .slice p33_3 (((ratS (u * x - v * y) (u * y + v * x)).1.t2).length) p33_c3, .slice p33_4 (((ratS (u * x - v * y) (u * y + v * x)).1.q2).length) p33_c4]) rfl rfl rfl (by kernel_rfl) hS 0 rfl rfl rfl) 0 rfl rfl rfl rfl ?_)
  intro w37 hS
  refine ⟨(hS.part (.cons _ (.cons_cons _ (.cons_cons _ .slnil))) ⟨⟨13, rfl⟩, ⟨⟨14, rfl⟩, ⟨⟨15, rfl⟩, ⟨⟨16, rfl⟩, ⟨⟨17, rfl⟩, ⟨⟨18, rfl⟩, ⟨⟨19, rfl⟩, ⟨⟨20, rfl⟩, trivial⟩⟩⟩⟩⟩⟩⟩⟩ .slnil), ?_⟩
  refine any_take hA 10 rfl rfl rfl rfl (by kernel_rfl) (by kernel_rfl) (by kernel_rfl) (fun c a w h => hP c a _ _ w h) (hS.part (.cons _ (.cons_cons _ (.cons_cons _ .slnil))) ⟨⟨13, rfl⟩, ⟨⟨14, rfl⟩, ⟨⟨15, rfl⟩, ⟨⟨16, rfl⟩, ⟨⟨17, rfl⟩, ⟨⟨18, rfl⟩, ⟨⟨19, rfl⟩, ⟨⟨20, rfl⟩, trivial⟩⟩⟩⟩⟩⟩⟩⟩ .slnil) (fun w1 hS => does_assign rfl) ?_
  intro a hA
  refine any_end (by kernel_rfl) ?_
  refine hK14 _ _ ?_
  refine wp_ret ?_
  refine hret _ _ ?_
  refine ends (v := .tuple #[.agg #[.bool ((ratS (u * x - v * y) (u * y + v * x)).1.b1), .slice p33_1 (((ratS (u * x - v * y) (u * y + v * x)).1.t1).length) p33_c1, .slice p33_2 (((ratS (u * x - v * y) (u * y + v * x)).1.q1).length) p33_c2, .bool ((ratS (u * x - v * y) (u * y + v * x)).1.b2), .slice p33_3 (((ratS (u * x - v * y) (u * y + v * x)).1.t2).length) p33_c3, .slice p33_4 (((ratS (u * x - v * y) (u * y + v * x)).1.q2).length) p33_c4], .int .i64 ((ratS (u * x - v * y) (u * y + v * x)).2)]) hA rfl (.cons (res_cell hS ExL_isS_26 rfl 0 rfl (cs := [.bool ((ratS (u * x - v * y) (u * y + v * x)).1.b1), .slice p33_1 (((ratS (u * x - v * y) (u * y + v * x)).1.t1).length) p33_c1, .slice p33_2 (((ratS (u * x - v * y) (u * y + v * x)).1.q1).length) p33_c2, .bool ((ratS (u * x - v * y) (u * y + v * x)).1.b2), .slice p33_3 (((ratS (u * x - v * y) (u * y + v * x)).1.t2).length) p33_c3, .slice p33_4 (((ratS (u * x - v * y) (u * y + v * x)).1.q2).length) p33_c4]) rfl rfl) (.cons (res_tmp rfl) .nil)) rfl ?_
  exact ⟨p33_1, p33_c1, p33_2, p33_c2, p33_3, p33_c3, p33_4, p33_c4, rfl, ⟨⟨(hS.rd 3 rfl), hn34.s1.nil, hn34.s1.cap⟩, ⟨(hS.rd 2 rfl), hn34.s2.nil, hn34.s2.cap⟩, ⟨(hS.rd 1 rfl), hn34.s3.nil, hn34.s3.cap⟩, ⟨(hS.rd 0 rfl), hn34.s4.nil, hn34.s4.cap⟩⟩, hS.bel⟩
theorem reckonMQ_any {w : World} {p q : Q6} {a1 a2 a3 a4 : Option Addr} {ac1 ac2 ac3 ac4 : Nat} (ha : Nm w p a1 ac1 a2 ac2 a3 ac3 a4 ac4) (hl : LenQ p) {u1 u2 u3 u4 : Option Addr} {uc1 uc2 uc3 uc4 : Nat} (hb : Nm w q u1 uc1 u2 uc2 u3 uc3 u4 uc4) (hm : LenQ q) : Calls Try.prog 29 #[.func (.func 31) #[] #[], numV p a1 ac1 a2 ac2 a3 ac3 a4 ac4, numV q u1 uc1 u2 uc2 u3 uc3 u4 uc4] w (AnsN w (mulQ p q)) := by
  rcases sound_cases ha with h1 | ⟨u, v, rfl, hu, hv⟩
  · rw [show mulQ p q = (Q6.zero, 2) from if_neg (fun k => by rw [h1] at k; cases k.1)]
    exact reckonE1_any ha hl hb hm h1
  · rcases sound_cases hb with h2 | ⟨x, y, rfl, hx, hy⟩
    · rw [show mulQ _ q = (Q6.zero, 2) from if_neg (fun k => by rw [h2] at k; cases k.2)]
      exact reckonE2_any ha hl hb hm (soundQ_rat hu hv) h2
    · rw [mulQ_rat hu hv hx hy]
      exact reckonM_any ha hb hu hv hx hy
theorem mulQ_any {w : World} {p q : Q6} {a1 a2 a3 a4 : Option Addr} {ac1 ac2 ac3 ac4 : Nat} (ha : Nm w p a1 ac1 a2 ac2 a3 ac3 a4 ac4) (hl : LenQ p) {u1 u2 u3 u4 : Option Addr} {uc1 uc2 uc3 uc4 : Nat} (hb : Nm w q u1 uc1 u2 uc2 u3 uc3 u4 uc4) (hm : LenQ q) : Calls Try.prog 11 #[numV p a1 ac1 a2 ac2 a3 ac3 a4 ac4, numV q u1 uc1 u2 uc2 u3 uc3 u4 uc4] w (AnsN w (mulQ p q)) := by
  have hS : St w w [] [(u4, q.q2), (u3, q.t2), (u2, q.q1), (u1, q.t1), (a4, p.q2), (a3, p.t2), (a2, p.q1), (a1, p.t1)] [] := ((((((((St.start w).addR ha.s1.rd).addR ha.s2.rd).addR ha.s3.rd).addR ha.s4.rd).addR hb.s1.rd).addR hb.s2.rd).addR hb.s3.rd).addR hb.s4.rd
  refine walk_of (l := [(0, .agg #[.bool p.b1, .slice a1 p.t1.length ac1, .slice a2 p.q1.length ac2, .bool p.b2, .slice a3 p.t2.length ac3, .slice a4 p.q2.length ac4]), (1, .agg #[.bool q.b1, .slice u1 q.t1.length uc1, .slice u2 q.q1.length uc2, .bool q.b2, .slice u3 q.t2.length uc3, .slice u4 q.q2.length uc4])]) Try.func11 rfl Try.ntmps11 rfl rfl ?_
  intro Q hret hnorm hP a hA
  refine wp_seq_k (fun K1 hK1 => ?_)
  refine wp_region_lit ?_
  refine seq_new (vs := [.bool p.b1, .slice a1 p.t1.length ac1, .slice a2 p.q1.length ac2, .bool p.b2, .slice a3 p.t2.length ac3, .slice a4 p.q2.length ac4]) (t := 26) hA hS rfl rfl rfl (fun g => .pointer (some ⟨g, 0, none⟩)) (does_box rfl rfl) rfl ?_
  intro g2 w3 hS a hA
  refine seq_new (vs := [.bool q.b1, .slice u1 q.t1.length uc1, .slice u2 q.q1.length uc2, .bool q.b2, .slice u3 q.t2.length uc3, .slice u4 q.q2.length uc4]) (t := 26) hA hS rfl rfl rfl (fun g => .pointer (some ⟨g, 0, none⟩)) (does_box rfl rfl) rfl ?_
  intro g4 w5 hS a hA
  refine seq_new (vs := [.bool false, .slice none 0 0, .slice none 0 0, .bool false, .slice none 0 0, .slice none 0 0]) (t := 26) hA hS rfl rfl rfl (fun g => .pointer (some ⟨g, 0, none⟩)) (does_alloc (z := .agg #[.bool false, .slice none 0 0, .slice none 0 0, .bool false, .slice none 0 0, .slice none 0 0]) (by kernel_rfl) rfl) rfl ?_
  intro g6 w7 hS a hA
  refine seq_do hA rfl rfl rfl (does_assign rfl) ?_
  intro a hA
  refine seq_end ?_
  refine hK1 _ _ ?_
  refine wp_seq_k (fun K8 hK8 => ?_)
  refine wp_region_lit ?_
  refine seq_do (v := .agg #[.bool p.b1, .slice a1 p.t1.length ac1, .slice a2 p.q1.length ac2, .bool p.b2, .slice a3 p.t2.length ac3, .slice a4 p.q2.length ac4]) hA rfl rfl rfl (does_loadS hS ExL_isS_26 rfl 2 rfl (cs := [.bool p.b1, .slice a1 p.t1.length ac1, .slice a2 p.q1.length ac2, .bool p.b2, .slice a3 p.t2.length ac3, .slice a4 p.q2.length ac4]) rfl rfl) ?_
  intro a hA
  refine seq_do (v := .agg #[.bool q.b1, .slice u1 q.t1.length uc1, .slice u2 q.q1.length uc2, .bool q.b2, .slice u3 q.t2.length uc3, .slice u4 q.q2.length uc4]) hA rfl rfl rfl (does_loadS hS ExL_isS_26 rfl 1 rfl (cs := [.bool q.b1, .slice u1 q.t1.length uc1, .slice u2 q.q1.length uc2, .bool q.b2, .slice u3 q.t2.length uc3, .slice u4 q.q2.length uc4]) rfl rfl) ?_
  intro a hA
  refine seq_call hA rfl rfl rfl (enters_func  rfl rfl (fun w => by kernel_rfl)) (reckonMQ_any (show Nm _ p a1 ac1 a2 ac2 a3 ac3 a4 ac4 from ⟨⟨(hS.rd 7 rfl), ha.s1.nil, ha.s1.cap⟩, ⟨(hS.rd 6 rfl), ha.s2.nil, ha.s2.cap⟩, ⟨(hS.rd 5 rfl), ha.s3.nil, ha.s3.cap⟩, ⟨(hS.rd 4 rfl), ha.s4.nil, ha.s4.cap⟩⟩) hl (show Nm _ q u1 uc1 u2 uc2 u3 uc3 u4 uc4 from ⟨⟨(hS.rd 3 rfl), hb.s1.nil, hb.s1.cap⟩, ⟨(hS.rd 2 rfl), hb.s2.nil, hb.s2.cap⟩, ⟨(hS.rd 1 rfl), hb.s3.nil, hb.s3.cap⟩, ⟨(hS.rd 0 rfl), hb.s4.nil, hb.s4.cap⟩⟩) hm) ?_
  rintro _ w12 ⟨p9_1, p9_c1, p9_2, p9_c2, p9_3, p9_c3, p9_4, p9_c4, rfl, hn10, hb11⟩
  replace hS := hS.call hb11
  replace hS := hS.addR hn10.s1.rd
  replace hS := hS.addR hn10.s2.rd
  replace hS := hS.addR hn10.s3.rd
  replace hS := hS.addR hn10.s4.rd
  refine ⟨_, rfl, ?_⟩
  intro a hA
  refine seq_do (v := .agg #[.bool ((mulQ p q).1.b1), .slice p9_1 (((mulQ p q).1.t1).length) p9_c1, .slice p9_2 (((mulQ p q).1.q1).length) p9_c2, .bool ((mulQ p q).1.b2), .slice p9_3 (((mulQ p q).1.t2).length) p9_c3, .slice p9_4 (((mulQ p q).1.q2).length) p9_c4]) hA rfl rfl rfl (does_extract (vs := [.agg #[.bool ((mulQ p q).1.b1), .slice p9_1 (((mulQ p q).1.t1).length) p9_c1, .slice p9_2 (((mulQ p q).1.q1).length) p9_c2, .bool ((mulQ p q).1.b2), .slice p9_3 (((mulQ p q).1.t2).length) p9_c3, .slice p9_4 (((mulQ p q).1.q2).length) p9_c4], .int .i64 ((mulQ p q).2)]) rfl rfl) ?_
  intro a hA
  refine seq_do (v := .int .i64 ((mulQ p q).2)) hA rfl rfl rfl (does_extract (vs := [.agg #[.bool ((mulQ p q).1.b1), .slice p9_1 (((mulQ p q).1.t1).length) p9_c1, .slice p9_2 (((mulQ p q).1.q1).length) p9_c2, .bool ((mulQ p q).1.b2), .slice p9_3 (((mulQ p q).1.t2).length) p9_c3, .slice p9_4 (((mulQ p q).1.q2).length) p9_c4], .int .i64 ((mulQ p q).2)]) rfl rfl) ?_
  intro a hA
  refine seq_store (us := [.bool ((mulQ p q).1.b1), .slice p9_1 (((mulQ p q).1.t1).length) p9_c1, .slice p9_2 (((mulQ p q).1.q1).length) p9_c2, .bool ((mulQ p q).1.b2), .slice p9_3 (((mulQ p q).1.t2).length) p9_c3, .slice p9_4 (((mulQ p q).1.q2).length) p9_c4]) hA hS rfl rfl (sets_store (cs := [.bool ((mulQ p q).1.b1), .slice p9_1 (((mulQ p q).1.t1).length) p9_c1, .slice p9_2 (((mulQ p q).1.q1).length) p9_c2, .bool ((mulQ p q).1.b2), .slice p9_3 (((mulQ p q).1.t2).length) p9_c3, .slice p9_4 (((mulQ p q).1.q2).length) p9_c4]) rfl rfl rfl (by kernel_rfl) hS 0 rfl rfl rfl) 0 rfl rfl rfl rfl ?_
  intro w13 hS
  refine seq_do hA rfl rfl rfl (does_assign rfl) ?_
  intro a hA
  refine seq_end ?_
  refine hK8 _ _ ?_
  refine wp_ret ?_
  refine hret _ _ ?_
  refine ends (v := .tuple #[.agg #[.bool ((mulQ p q).1.b1), .slice p9_1 (((mulQ p q).1.t1).length) p9_c1, .slice p9_2 (((mulQ p q).1.q1).length) p9_c2, .bool ((mulQ p q).1.b2), .slice p9_3 (((mulQ p q).1.t2).length) p9_c3, .slice p9_4 (((mulQ p q).1.q2).length) p9_c4], .int .i64 ((mulQ p q).2)]) hA rfl (.cons (res_cell hS ExL_isS_26 rfl 0 rfl (cs := [.bool ((mulQ p q).1.b1), .slice p9_1 (((mulQ p q).1.t1).length) p9_c1, .slice p9_2 (((mulQ p q).1.q1).length) p9_c2, .bool ((mulQ p q).1.b2), .slice p9_3 (((mulQ p q).1.t2).length) p9_c3, .slice p9_4 (((mulQ p q).1.q2).length) p9_c4]) rfl rfl) (.cons (res_tmp rfl) .nil)) rfl ?_
  exact ⟨p9_1, p9_c1, p9_2, p9_c2, p9_3, p9_c3, p9_4, p9_c4, rfl, ⟨⟨(hS.rd 3 rfl), hn10.s1.nil, hn10.s1.cap⟩, ⟨(hS.rd 2 rfl), hn10.s2.nil, hn10.s2.cap⟩, ⟨(hS.rd 1 rfl), hn10.s3.nil, hn10.s3.cap⟩, ⟨(hS.rd 0 rfl), hn10.s4.nil, hn10.s4.cap⟩⟩, hS.bel⟩
theorem divZ_any {w : World} {u v x y : Rat} {a1 a2 a3 a4 : Option Addr} {ac1 ac2 ac3 ac4 : Nat} (ha : Nm w (Q6.rat u v) a1 ac1 a2 ac2 a3 ac3 a4 ac4) {u1 u2 u3 u4 : Option Addr} {uc1 uc2 uc3 uc4 : Nat} (hb : Nm w (Q6.rat x y) u1 uc1 u2 uc2 u3 uc3 u4 uc4) (hu : fitR u) (hv : fitR v) (hx : fitR x) (hy : fitR y) (hz : x = 0 ∧ y = 0) : Calls Try.prog 14 #[numV (Q6.rat u v) a1 ac1 a2 ac2 a3 ac3 a4 ac4, numV (Q6.rat x y) u1 uc1 u2 uc2 u3 uc3 u4 uc4] w (AnsN w (Q6.zero, 3)) := by
  have k1 : (words x.num.natAbs).length ≤ 512 := hx.1
  have k2 : (words y.num.natAbs).length ≤ 512 := hy.1
  have hS : St w w [] [(u4, words y.den), (u3, words y.num.natAbs), (u2, words x.den), (u1, words x.num.natAbs), (a4, words v.den), (a3, words v.num.natAbs), (a2, words u.den), (a1, words u.num.natAbs)] [] := ((((((((St.start w).addR ha.s1.rd).addR ha.s2.rd).addR ha.s3.rd).addR ha.s4.rd).addR hb.s1.rd).addR hb.s2.rd).addR hb.s3.rd).addR hb.s4.rd
  refine walk_of (l := [(0, .agg #[.bool (rb u.num), .slice a1 ((words u.num.natAbs).length) ac1, .slice a2 ((words u.den).length) ac2, .bool (rb v.num), .slice a3 ((words v.num.natAbs).length) ac3, .slice a4 ((words v.den).length) ac4]), (1, .agg #[.bool (rb x.num), .slice u1 ((words x.num.natAbs).length) uc1, .slice u2 ((words x.den).length) uc2, .bool (rb y.num), .slice u3 ((words y.num.natAbs).length) uc3, .slice u4 ((words y.den).length) uc4])]) Try.func14 rfl Try.ntmps14 rfl rfl ?_
  intro Q hret hnorm hP a hA
  refine wp_seq_k (fun K1 hK1 => ?_)
  refine wp_region_lit ?_
  refine seq_new (vs := [.bool (rb u.num), .slice a1 ((words u.num.natAbs).length) ac1, .slice a2 ((words u.den).length) ac2, .bool (rb v.num), .slice a3 ((words v.num.natAbs).length) ac3, .slice a4 ((words v.den).length) ac4]) (t := 26) hA hS rfl rfl rfl (fun g => .pointer (some ⟨g, 0, none⟩)) (does_box rfl rfl) rfl ?_
  intro g2 w3 hS a hA
  refine seq_new (vs := [.bool (rb x.num), .slice u1 ((words x.num.natAbs).length) uc1, .slice u2 ((words x.den).length) uc2, .bool (rb y.num), .slice u3 ((words y.num.natAbs).length) uc3, .slice u4 ((words y.den).length) uc4]) (t := 26) hA hS rfl rfl rfl (fun g => .pointer (some ⟨g, 0, none⟩)) (does_box rfl rfl) rfl ?_
  intro g4 w5 hS a hA
  refine seq_new (vs := [.bool false, .slice none 0 0, .slice none 0 0, .bool false, .slice none 0 0, .slice none 0 0]) (t := 26) hA hS rfl rfl rfl (fun g => .pointer (some ⟨g, 0, none⟩)) (does_alloc (z := .agg #[.bool false, .slice none 0 0, .slice none 0 0, .bool false, .slice none 0 0, .slice none 0 0]) (by kernel_rfl) rfl) rfl ?_
  intro g6 w7 hS a hA
  refine seq_do hA rfl rfl rfl (does_assign rfl) ?_
  intro a hA
  refine seq_end ?_
  refine hK1 _ _ ?_
  refine wp_seq_k (fun K8 hK8 => ?_)
  refine wp_seq_k (fun K9 hK9 => ?_)
  refine wp_region_lit ?_
  refine seq_do (v := .agg #[.bool (rb u.num), .slice a1 ((words u.num.natAbs).length) ac1, .slice a2 ((words u.den).length) ac2, .bool (rb v.num), .slice a3 ((words v.num.natAbs).length) ac3, .slice a4 ((words v.den).length) ac4]) hA rfl rfl rfl (does_loadS hS ExL_isS_26 rfl 2 rfl (cs := [.bool (rb u.num), .slice a1 ((words u.num.natAbs).length) ac1, .slice a2 ((words u.den).length) ac2, .bool (rb v.num), .slice a3 ((words v.num.natAbs).length) ac3, .slice a4 ((words v.den).length) ac4]) rfl rfl) ?_
  intro a hA
  refine seq_call hA rfl rfl rfl (enters_func  rfl rfl (fun w => by kernel_rfl)) (soundQ_any (show Nm _ (Q6.rat u v) a1 ac1 a2 ac2 a3 ac3 a4 ac4 from ⟨⟨(hS.rd 7 rfl), ha.s1.nil, ha.s1.cap⟩, ⟨(hS.rd 6 rfl), ha.s2.nil, ha.s2.cap⟩, ⟨(hS.rd 5 rfl), ha.s3.nil, ha.s3.cap⟩, ⟨(hS.rd 4 rfl), ha.s4.nil, ha.s4.cap⟩⟩) (lenQ_rat hu hv) (soundQ_rat hu hv)) ?_
  rintro _ w11 ⟨rfl, hb10⟩
  replace hS := hS.call hb10
  refine ⟨_, rfl, ?_⟩
  intro a hA
  refine seq_do (v := .bool false) hA rfl rfl rfl (does_un rfl un_not) ?_
  intro a hA
  refine seq_do hA rfl rfl rfl (does_move rfl) ?_
  intro a hA
  refine seq_do (v := .agg #[.bool (rb x.num), .slice u1 ((words x.num.natAbs).length) uc1, .slice u2 ((words x.den).length) uc2, .bool (rb y.num), .slice u3 ((words y.num.natAbs).length) uc3, .slice u4 ((words y.den).length) uc4]) hA rfl rfl rfl (does_loadS hS ExL_isS_26 rfl 1 rfl (cs := [.bool (rb x.num), .slice u1 ((words x.num.natAbs).length) uc1, .slice u2 ((words x.den).length) uc2, .bool (rb y.num), .slice u3 ((words y.num.natAbs).length) uc3, .slice u4 ((words y.den).length) uc4]) rfl rfl) ?_
  intro a hA
  refine seq_call hA rfl rfl rfl (enters_func  rfl rfl (fun w => by kernel_rfl)) (soundQ_any (show Nm _ (Q6.rat x y) u1 uc1 u2 uc2 u3 uc3 u4 uc4 from ⟨⟨(hS.rd 3 rfl), hb.s1.nil, hb.s1.cap⟩, ⟨(hS.rd 2 rfl), hb.s2.nil, hb.s2.cap⟩, ⟨(hS.rd 1 rfl), hb.s3.nil, hb.s3.cap⟩, ⟨(hS.rd 0 rfl), hb.s4.nil, hb.s4.cap⟩⟩) (lenQ_rat hx hy) (soundQ_rat hx hy)) ?_
  rintro _ w13 ⟨rfl, hb12⟩
  replace hS := hS.call hb12
  refine ⟨_, rfl, ?_⟩
  intro a hA
  refine seq_do (v := .bool false) hA rfl rfl rfl (does_un rfl un_not) ?_
  intro a hA
  refine seq_do (v := .bool false) hA rfl rfl rfl (does_pick rfl rfl rfl rfl) ?_
  intro a hA
  refine seq_end ?_
  refine hK9 _ _ ?_
  refine wp_cond_false (hA.ev rfl) ?_
  refine wp_skip ?_
  refine hK8 _ _ ?_
  refine wp_seq_k (fun K14 hK14 => ?_)
  refine wp_seq_k (fun K15 hK15 => ?_)
  refine wp_region_lit ?_
  refine seq_do (v := .agg #[.bool (rb x.num), .slice u1 ((words x.num.natAbs).length) uc1, .slice u2 ((words x.den).length) uc2, .bool (rb y.num), .slice u3 ((words y.num.natAbs).length) uc3, .slice u4 ((words y.den).length) uc4]) hA rfl rfl rfl (does_loadS hS ExL_isS_26 rfl 1 rfl (cs := [.bool (rb x.num), .slice u1 ((words x.num.natAbs).length) uc1, .slice u2 ((words x.den).length) uc2, .bool (rb y.num), .slice u3 ((words y.num.natAbs).length) uc3, .slice u4 ((words y.den).length) uc4]) rfl rfl) ?_
  intro a hA
  refine seq_call hA rfl rfl rfl (enters_func  rfl rfl (fun w => by kernel_rfl)) ((show Calls Try.prog 34 #[.agg #[.bool (rb x.num), .slice u1 ((words x.num.natAbs).length) uc1, .slice u2 ((words x.den).length) uc2, .bool (rb y.num), .slice u3 ((words y.num.natAbs).length) uc3, .slice u4 ((words y.den).length) uc4]] _ (fun e w' => e = .returned (.bool true) ∧ _) from (((zero_rat x y).trans (decide_eq_true hz)) ▸ isZero_any (by omega) (by omega)))) ?_
  rintro _ w17 ⟨rfl, hb16⟩
  replace hS := hS.call hb16
  refine ⟨_, rfl, ?_⟩
  intro a hA
  refine seq_end ?_
  refine hK15 _ _ ?_
  refine wp_cond_true (hA.ev rfl) ?_
  refine wp_seq_k (fun K18 hK18 => ?_)
  refine wp_region_lit ?_
  refine seq_do (v := .agg #[.bool false, .slice none 0 0, .slice none 0 0, .bool false, .slice none 0 0, .slice none 0 0]) hA rfl rfl rfl (does_build rfl (fun w => by kernel_rfl)) ?_
  intro a hA
  refine seq_store (us := [.bool false, .slice none 0 0, .slice none 0 0, .bool false, .slice none 0 0, .slice none 0 0]) hA hS rfl rfl (sets_store (cs := [.bool false, .slice none 0 0, .slice none 0 0, .bool false, .slice none 0 0, .slice none 0 0]) rfl rfl rfl (by kernel_rfl) hS 0 rfl rfl rfl) 0 rfl rfl rfl rfl ?_
  intro w19 hS
  refine seq_do hA rfl rfl rfl (does_assign rfl) ?_
  intro a hA
  refine seq_end ?_
  refine hK18 _ _ ?_
  refine wp_ret ?_
  refine hret _ _ ?_
  refine ends (v := .tuple #[.agg #[.bool false, .slice none 0 0, .slice none 0 0, .bool false, .slice none 0 0, .slice none 0 0], .int .i64 3]) hA rfl (.cons (res_cell hS ExL_isS_26 rfl 0 rfl (cs := [.bool false, .slice none 0 0, .slice none 0 0, .bool false, .slice none 0 0, .slice none 0 0]) rfl rfl) (.cons (res_tmp rfl) .nil)) rfl ?_
  exact ⟨none, 0, none, 0, none, 0, none, 0, rfl, ⟨(Sc.none _), (Sc.none _), (Sc.none _), (Sc.none _)⟩, hS.bel⟩
theorem divN_any {w : World} {u v x y : Rat} {a1 a2 a3 a4 : Option Addr} {ac1 ac2 ac3 ac4 : Nat} (ha : Nm w (Q6.rat u v) a1 ac1 a2 ac2 a3 ac3 a4 ac4) {u1 u2 u3 u4 : Option Addr} {uc1 uc2 uc3 uc4 : Nat} (hb : Nm w (Q6.rat x y) u1 uc1 u2 uc2 u3 uc3 u4 uc4) (hu : fitR u) (hv : fitR v) (hx : fitR x) (hy : fitR y) (hz : ¬ (x = 0 ∧ y = 0)) : Calls Try.prog 14 #[numV (Q6.rat u v) a1 ac1 a2 ac2 a3 ac3 a4 ac4, numV (Q6.rat x y) u1 uc1 u2 uc2 u3 uc3 u4 uc4] w (AnsN w (ratS ((u * x + v * y) / (x * x + y * y)) ((v * x - u * y) / (x * x + y * y)))) := by
  have k1 : (words x.num.natAbs).length ≤ 512 := hx.1
  have k2 : (words y.num.natAbs).length ≤ 512 := hy.1
  have m1 := spX_len hu hv
  have m2 := spY_len hu hv
  have m3 := spD_len hu hv
  have m4 := spX_len hx hy
  have m5 := spY_len hx hy
  have m6 := spD_len hx hy
  have n1 := ivX_len (y := spY x y) m4 m6
  have n2 := ivY_len (x := spX x y) m5 m6
  have n3 := ivD_len m4 m5
  have hS : St w w [] [(u4, words y.den), (u3, words y.num.natAbs), (u2, words x.den), (u1, words x.num.natAbs), (a4, words v.den), (a3, words v.num.natAbs), (a2, words u.den), (a1, words u.num.natAbs)] [] := ((((((((St.start w).addR ha.s1.rd).addR ha.s2.rd).addR ha.s3.rd).addR ha.s4.rd).addR hb.s1.rd).addR hb.s2.rd).addR hb.s3.rd).addR hb.s4.rd
  refine walk_of (l := [(0, .agg #[.bool (rb u.num), .slice a1 ((words u.num.natAbs).length) ac1, .slice a2 ((words u.den).length) ac2, .bool (rb v.num), .slice a3 ((words v.num.natAbs).length) ac3, .slice a4 ((words v.den).length) ac4]), (1, .agg #[.bool (rb x.num), .slice u1 ((words x.num.natAbs).length) uc1, .slice u2 ((words x.den).length) uc2, .bool (rb y.num), .slice u3 ((words y.num.natAbs).length) uc3, .slice u4 ((words y.den).length) uc4])]) Try.func14 rfl Try.ntmps14 rfl rfl ?_
  intro Q hret hnorm hP a hA
  refine wp_seq_k (fun K1 hK1 => ?_)
  refine wp_region_lit ?_
  refine seq_new (vs := [.bool (rb u.num), .slice a1 ((words u.num.natAbs).length) ac1, .slice a2 ((words u.den).length) ac2, .bool (rb v.num), .slice a3 ((words v.num.natAbs).length) ac3, .slice a4 ((words v.den).length) ac4]) (t := 26) hA hS rfl rfl rfl (fun g => .pointer (some ⟨g, 0, none⟩)) (does_box rfl rfl) rfl ?_
  intro g2 w3 hS a hA
  refine seq_new (vs := [.bool (rb x.num), .slice u1 ((words x.num.natAbs).length) uc1, .slice u2 ((words x.den).length) uc2, .bool (rb y.num), .slice u3 ((words y.num.natAbs).length) uc3, .slice u4 ((words y.den).length) uc4]) (t := 26) hA hS rfl rfl rfl (fun g => .pointer (some ⟨g, 0, none⟩)) (does_box rfl rfl) rfl ?_
  intro g4 w5 hS a hA
  refine seq_new (vs := [.bool false, .slice none 0 0, .slice none 0 0, .bool false, .slice none 0 0, .slice none 0 0]) (t := 26) hA hS rfl rfl rfl (fun g => .pointer (some ⟨g, 0, none⟩)) (does_alloc (z := .agg #[.bool false, .slice none 0 0, .slice none 0 0, .bool false, .slice none 0 0, .slice none 0 0]) (by kernel_rfl) rfl) rfl ?_
  intro g6 w7 hS a hA
  refine seq_do hA rfl rfl rfl (does_assign rfl) ?_
  intro a hA
  refine seq_end ?_
  refine hK1 _ _ ?_
  refine wp_seq_k (fun K8 hK8 => ?_)
  refine wp_seq_k (fun K9 hK9 => ?_)
  refine wp_region_lit ?_
  refine seq_do (v := .agg #[.bool (rb u.num), .slice a1 ((words u.num.natAbs).length) ac1, .slice a2 ((words u.den).length) ac2, .bool (rb v.num), .slice a3 ((words v.num.natAbs).length) ac3, .slice a4 ((words v.den).length) ac4]) hA rfl rfl rfl (does_loadS hS ExL_isS_26 rfl 2 rfl (cs := [.bool (rb u.num), .slice a1 ((words u.num.natAbs).length) ac1, .slice a2 ((words u.den).length) ac2, .bool (rb v.num), .slice a3 ((words v.num.natAbs).length) ac3, .slice a4 ((words v.den).length) ac4]) rfl rfl) ?_
  intro a hA
  refine seq_call hA rfl rfl rfl (enters_func  rfl rfl (fun w => by kernel_rfl)) (soundQ_any (show Nm _ (Q6.rat u v) a1 ac1 a2 ac2 a3 ac3 a4 ac4 from ⟨⟨(hS.rd 7 rfl), ha.s1.nil, ha.s1.cap⟩, ⟨(hS.rd 6 rfl), ha.s2.nil, ha.s2.cap⟩, ⟨(hS.rd 5 rfl), ha.s3.nil, ha.s3.cap⟩, ⟨(hS.rd 4 rfl), ha.s4.nil, ha.s4.cap⟩⟩) (lenQ_rat hu hv) (soundQ_rat hu hv)) ?_
  rintro _ w11 ⟨rfl, hb10⟩
  replace hS := hS.call hb10
  refine ⟨_, rfl, ?_⟩
  intro a hA
  refine seq_do (v := .bool false) hA rfl rfl rfl (does_un rfl un_not) ?_
  intro a hA
  refine seq_do hA rfl rfl rfl (does_move rfl) ?_
  intro a hA
  refine seq_do (v := .agg #[.bool (rb x.num), .slice u1 ((words x.num.natAbs).length) uc1, .slice u2 ((words x.den).length) uc2, .bool (rb y.num), .slice u3 ((words y.num.natAbs).length) uc3, .slice u4 ((words y.den).length) uc4]) hA rfl rfl rfl (does_loadS hS ExL_isS_26 rfl 1 rfl (cs := [.bool (rb x.num), .slice u1 ((words x.num.natAbs).length) uc1, .slice u2 ((words x.den).length) uc2, .bool (rb y.num), .slice u3 ((words y.num.natAbs).length) uc3, .slice u4 ((words y.den).length) uc4]) rfl rfl) ?_
  intro a hA
  refine seq_call hA rfl rfl rfl (enters_func  rfl rfl (fun w => by kernel_rfl)) (soundQ_any (show Nm _ (Q6.rat x y) u1 uc1 u2 uc2 u3 uc3 u4 uc4 from ⟨⟨(hS.rd 3 rfl), hb.s1.nil, hb.s1.cap⟩, ⟨(hS.rd 2 rfl), hb.s2.nil, hb.s2.cap⟩, ⟨(hS.rd 1 rfl), hb.s3.nil, hb.s3.cap⟩, ⟨(hS.rd 0 rfl), hb.s4.nil, hb.s4.cap⟩⟩) (lenQ_rat hx hy) (soundQ_rat hx hy)) ?_
  rintro _ w13 ⟨rfl, hb12⟩
  replace hS := hS.call hb12
  refine ⟨_, rfl, ?_⟩
  intro a hA
  refine seq_do (v := .bool false) hA rfl rfl rfl (does_un rfl un_not) ?_
  intro a hA
  refine seq_do (v := .bool false) hA rfl rfl rfl (does_pick rfl rfl rfl rfl) ?_
  intro a hA
  refine seq_end ?_
  refine hK9 _ _ ?_
  refine wp_cond_false (hA.ev rfl) ?_
  refine wp_skip ?_
  refine hK8 _ _ ?_
  refine wp_seq_k (fun K14 hK14 => ?_)
  refine wp_seq_k (fun K15 hK15 => ?_)
  refine wp_region_lit ?_
  refine seq_do (v := .agg #[.bool (rb x.num), .slice u1 ((words x.num.natAbs).length) uc1, .slice u2 ((words x.den).length) uc2, .bool (rb y.num), .slice u3 ((words y.num.natAbs).length) uc3, .slice u4 ((words y.den).length) uc4]) hA rfl rfl rfl (does_loadS hS ExL_isS_26 rfl 1 rfl (cs := [.bool (rb x.num), .slice u1 ((words x.num.natAbs).length) uc1, .slice u2 ((words x.den).length) uc2, .bool (rb y.num), .slice u3 ((words y.num.natAbs).length) uc3, .slice u4 ((words y.den).length) uc4]) rfl rfl) ?_
  intro a hA
  refine seq_call hA rfl rfl rfl (enters_func  rfl rfl (fun w => by kernel_rfl)) ((show Calls Try.prog 34 #[.agg #[.bool (rb x.num), .slice u1 ((words x.num.natAbs).length) uc1, .slice u2 ((words x.den).length) uc2, .bool (rb y.num), .slice u3 ((words y.num.natAbs).length) uc3, .slice u4 ((words y.den).length) uc4]] _ (fun e w' => e = .returned (.bool false) ∧ _) from (((zero_rat x y).trans (decide_eq_false hz)) ▸ isZero_any (by omega) (by omega)))) ?_
  rintro _ w17 ⟨rfl, hb16⟩
  replace hS := hS.call hb16
  refine ⟨_, rfl, ?_⟩
  intro a hA
  refine seq_end ?_
  refine hK15 _ _ ?_
  refine wp_cond_false (hA.ev rfl) ?_
  refine wp_skip ?_
  refine hK14 _ _ ?_
  refine wp_seq_k (fun K18 hK18 => ?_)
  refine wp_draw (S := fun w1 => St w w1 [(g4, [.bool (rb x.num), .slice u1 ((words x.num.natAbs).length) uc1, .slice u2 ((words x.den).length) uc2, .bool (rb y.num), .slice u3 ((words y.num.natAbs).length) uc3, .slice u4 ((words y.den).length) uc4]), (g2, [.bool (rb u.num), .slice a1 ((words u.num.natAbs).length) ac1, .slice a2 ((words u.den).length) ac2, .bool (rb v.num), .slice a3 ((words v.num.natAbs).length) ac3, .slice a4 ((words v.den).length) ac4])] [(u4, words y.den), (u3, words y.num.natAbs), (u2, words x.den), (u1, words x.num.natAbs), (a4, words v.den), (a3, words v.num.natAbs), (a2, words u.den), (a1, words u.num.natAbs)] []) (by kernel_rfl) ?_
  replace hS := hS.drew
  refine any_take (v := .agg #[.bool (rb u.num), .slice a1 ((words u.num.natAbs).length) ac1, .slice a2 ((words u.den).length) ac2, .bool (rb v.num), .slice a3 ((words v.num.natAbs).length) ac3, .slice a4 ((words v.den).length) ac4]) hA 0 rfl rfl rfl rfl (by kernel_rfl) (by kernel_rfl) (by kernel_rfl) (fun c a w h => hP c a _ _ w h) (hS.part (.cons _ (.cons_cons _ (.cons_cons _ .slnil))) ⟨⟨0, rfl⟩, ⟨⟨1, rfl⟩, ⟨⟨2, rfl⟩, ⟨⟨3, rfl⟩, ⟨⟨4, rfl⟩, ⟨⟨5, rfl⟩, ⟨⟨6, rfl⟩, ⟨⟨7, rfl⟩, trivial⟩⟩⟩⟩⟩⟩⟩⟩ .slnil) (fun w1 hS => does_loadS hS ExL_isS_26 rfl 1 rfl (cs := [.bool (rb u.num), .slice a1 ((words u.num.natAbs).length) ac1, .slice a2 ((words u.den).length) ac2, .bool (rb v.num), .slice a3 ((words v.num.natAbs).length) ac3, .slice a4 ((words v.den).length) ac4]) rfl rfl) ?_
  intro a hA
  refine any_take (v := .agg #[.bool (rb x.num), .slice u1 ((words x.num.natAbs).length) uc1, .slice u2 ((words x.den).length) uc2, .bool (rb y.num), .slice u3 ((words y.num.natAbs).length) uc3, .slice u4 ((words y.den).length) uc4]) hA 2 rfl rfl rfl rfl (by kernel_rfl) (by kernel_rfl) (by kernel_rfl) (fun c a w h => hP c a _ _ w h) (hS.part (.cons _ (.cons_cons _ (.cons_cons _ .slnil))) ⟨⟨0, rfl⟩, ⟨⟨1, rfl⟩, ⟨⟨2, rfl⟩, ⟨⟨3, rfl⟩, ⟨⟨4, rfl⟩, ⟨⟨5, rfl⟩, ⟨⟨6, rfl⟩, ⟨⟨7, rfl⟩, trivial⟩⟩⟩⟩⟩⟩⟩⟩ .slnil) (fun w1 hS => does_loadS hS ExL_isS_26 rfl 0 rfl (cs := [.bool (rb x.num), .slice u1 ((words x.num.natAbs).length) uc1, .slice u2 ((words x.den).length) uc2, .bool (rb y.num), .slice u3 ((words y.num.natAbs).length) uc3, .slice u4 ((words y.den).length) uc4]) rfl rfl) ?_
  intro a hA
  refine any_one (by kernel_rfl) (op_call hA 1 rfl rfl rfl rfl (enters_func  rfl rfl (fun w => by kernel_rfl)) (zspread_any (show Nm _ (Q6.rat u v) a1 ac1 a2 ac2 a3 ac3 a4 ac4 from ⟨⟨(hS.rd 7 rfl), ha.s1.nil, ha.s1.cap⟩, ⟨(hS.rd 6 rfl), ha.s2.nil, ha.s2.cap⟩, ⟨(hS.rd 5 rfl), ha.s3.nil, ha.s3.cap⟩, ⟨(hS.rd 4 rfl), ha.s4.nil, ha.s4.cap⟩⟩) hu hv) ?_)
  rintro _ w24 ⟨p19_1, p19_c1, p19_2, p19_c2, p19_3, p19_c3, rfl, hs20, hs21, hs22, hb23⟩
  replace hS := hS.call hb23
  replace hS := hS.addR hs20.rd
  replace hS := hS.addR hs21.rd
  replace hS := hS.addR hs22.rd
  refine ⟨_, rfl, (hS.part (.cons _ (.cons_cons _ (.cons_cons _ .slnil))) ⟨⟨3, rfl⟩, ⟨⟨4, rfl⟩, ⟨⟨5, rfl⟩, ⟨⟨6, rfl⟩, ⟨⟨7, rfl⟩, ⟨⟨8, rfl⟩, ⟨⟨9, rfl⟩, ⟨⟨10, rfl⟩, trivial⟩⟩⟩⟩⟩⟩⟩⟩ .slnil), ?_⟩
  intro a hA
  refine any_one (by kernel_rfl) (op_call hA 3 rfl rfl rfl rfl (enters_func  rfl rfl (fun w => by kernel_rfl)) (zspread_any (show Nm _ (Q6.rat x y) u1 uc1 u2 uc2 u3 uc3 u4 uc4 from ⟨⟨(hS.rd 6 rfl), hb.s1.nil, hb.s1.cap⟩, ⟨(hS.rd 5 rfl), hb.s2.nil, hb.s2.cap⟩, ⟨(hS.rd 4 rfl), hb.s3.nil, hb.s3.cap⟩, ⟨(hS.rd 3 rfl), hb.s4.nil, hb.s4.cap⟩⟩) hx hy) ?_)
  rintro _ w30 ⟨p25_1, p25_c1, p25_2, p25_c2, p25_3, p25_c3, rfl, hs26, hs27, hs28, hb29⟩
  replace hS := hS.call hb29
  replace hS := hS.addR hs26.rd
  replace hS := hS.addR hs27.rd
  replace hS := hS.addR hs28.rd
  refine ⟨_, rfl, (hS.part (.cons _ (.cons_cons _ (.cons_cons _ .slnil))) ⟨⟨6, rfl⟩, ⟨⟨7, rfl⟩, ⟨⟨8, rfl⟩, ⟨⟨9, rfl⟩, ⟨⟨10, rfl⟩, ⟨⟨11, rfl⟩, ⟨⟨12, rfl⟩, ⟨⟨13, rfl⟩, trivial⟩⟩⟩⟩⟩⟩⟩⟩ .slnil), ?_⟩
  intro a hA
  refine any_one (by kernel_rfl) (op_call hA 4 rfl rfl rfl rfl (enters_func  rfl rfl (fun w => by kernel_rfl)) (zinv_any ⟨(hS.rd 2 rfl), hs26.nil, hs26.cap⟩ ⟨(hS.rd 1 rfl), hs27.nil, hs27.cap⟩ ⟨(hS.rd 0 rfl), hs28.nil, hs28.cap⟩ (by omega) (by omega) (by omega)) ?_)
  rintro _ w36 ⟨p31_1, p31_c1, p31_2, p31_c2, p31_3, p31_c3, rfl, hs32, hs33, hs34, hb35⟩
  replace hS := hS.call hb35
  replace hS := hS.addR hs32.rd
  replace hS := hS.addR hs33.rd
  replace hS := hS.addR hs34.rd
  refine ⟨_, rfl, (hS.part (.cons _ (.cons_cons _ (.cons_cons _ .slnil))) ⟨⟨9, rfl⟩, ⟨⟨10, rfl⟩, ⟨⟨11, rfl⟩, ⟨⟨12, rfl⟩, ⟨⟨13, rfl⟩, ⟨⟨14, rfl⟩, ⟨⟨15, rfl⟩, ⟨⟨16, rfl⟩, trivial⟩⟩⟩⟩⟩⟩⟩⟩ .slnil), ?_⟩
  intro a hA
  refine any_one (by kernel_rfl) (op_call hA 5 rfl rfl rfl rfl (enters_func  rfl rfl (fun w => by kernel_rfl)) (zproduct_any ⟨(hS.rd 8 rfl), hs20.nil, hs20.cap⟩ ⟨(hS.rd 7 rfl), hs21.nil, hs21.cap⟩ ⟨(hS.rd 6 rfl), hs22.nil, hs22.cap⟩ ⟨(hS.rd 2 rfl), hs32.nil, hs32.cap⟩ ⟨(hS.rd 1 rfl), hs33.nil, hs33.cap⟩ ⟨(hS.rd 0 rfl), hs34.nil, hs34.cap⟩ (by omega) (by omega) (by omega) (by omega) (by omega) (by omega)) ?_)
  rintro _ w42 ⟨p37_1, p37_c1, p37_2, p37_c2, p37_3, p37_c3, rfl, hs38, hs39, hs40, hb41⟩
  replace hS := hS.call hb41
  replace hS := hS.addR hs38.rd
  replace hS := hS.addR hs39.rd
  replace hS := hS.addR hs40.rd
  refine ⟨_, rfl, (hS.part (.cons _ (.cons_cons _ (.cons_cons _ .slnil))) ⟨⟨12, rfl⟩, ⟨⟨13, rfl⟩, ⟨⟨14, rfl⟩, ⟨⟨15, rfl⟩, ⟨⟨16, rfl⟩, ⟨⟨17, rfl⟩, ⟨⟨18, rfl⟩, ⟨⟨19, rfl⟩, trivial⟩⟩⟩⟩⟩⟩⟩⟩ .slnil), ?_⟩
  intro a hA
  refine any_one (by kernel_rfl) (op_call hA 6 rfl rfl rfl rfl (enters_func  rfl rfl (fun w => by kernel_rfl)) (zsettle_as ⟨(hS.rd 2 rfl), hs38.nil, hs38.cap⟩ ⟨(hS.rd 1 rfl), hs39.nil, hs39.cap⟩ ⟨(hS.rd 0 rfl), hs40.nil, hs40.cap⟩ (set_div (spD_ne u v) (spD_ne x y) (spX_mk u v) (spY_mk u v) (spX_mk x y) (spY_mk x y) (sp_ne hz)) (Nat.le_trans (abs_add_len (Nat.le_trans (abs_mul_len m1 n1) (by decide : _ ≤ 4096)) (Nat.le_trans (neg_len (abs_mul_len m2 n2)) (by decide : _ ≤ 4096))) (by decide)) (Nat.le_trans (abs_add_len (Nat.le_trans (abs_mul_len m1 n2) (by decide : _ ≤ 4096)) (Nat.le_trans (abs_mul_len m2 n1) (by decide : _ ≤ 4096))) (by decide)) (Nat.le_trans (words_mul_length m3 n3) (by decide)) (Nat.mul_ne_zero (spD_ne u v) (ivD_ne (sp_ne hz)))) ?_)
  rintro _ w46 ⟨p43_1, p43_c1, p43_2, p43_c2, p43_3, p43_c3, p43_4, p43_c4, rfl, hn44, hb45⟩
  replace hS := hS.call hb45
  replace hS := hS.addR hn44.s1.rd
  replace hS := hS.addR hn44.s2.rd
  replace hS := hS.addR hn44.s3.rd
  replace hS := hS.addR hn44.s4.rd
  refine ⟨_, rfl, (hS.part (.cons _ (.cons_cons _ (.cons_cons _ .slnil))) ⟨⟨16, rfl⟩, ⟨⟨17, rfl⟩, ⟨⟨18, rfl⟩, ⟨⟨19, rfl⟩, ⟨⟨20, rfl⟩, ⟨⟨21, rfl⟩, ⟨⟨22, rfl⟩, ⟨⟨23, rfl⟩, trivial⟩⟩⟩⟩⟩⟩⟩⟩ .slnil), ?_⟩
  intro a hA
  refine any_take (v := .agg #[.bool ((ratS ((u * x + v * y) / (x * x + y * y)) ((v * x - u * y) / (x * x + y * y))).1.b1), .slice p43_1 (((ratS ((u * x + v * y) / (x * x + y * y)) ((v * x - u * y) / (x * x + y * y))).1.t1).length) p43_c1, .slice p43_2 (((ratS ((u * x + v * y) / (x * x + y * y)) ((v * x - u * y) / (x * x + y * y))).1.q1).length) p43_c2, .bool ((ratS ((u * x + v * y) / (x * x + y * y)) ((v * x - u * y) / (x * x + y * y))).1.b2), .slice p43_3 (((ratS ((u * x + v * y) / (x * x + y * y)) ((v * x - u * y) / (x * x + y * y))).1.t2).length) p43_c3, .slice p43_4 (((ratS ((u * x + v * y) / (x * x + y * y)) ((v * x - u * y) / (x * x + y * y))).1.q2).length) p43_c4]) hA 7 rfl rfl rfl rfl (by kernel_rfl) (by kernel_rfl) (by kernel_rfl) (fun c a w h => hP c a _ _ w h) (hS.part (.cons _ (.cons_cons _ (.cons_cons _ .slnil))) ⟨⟨16, rfl⟩, ⟨⟨17, rfl⟩, ⟨⟨18, rfl⟩, ⟨⟨19, rfl⟩, ⟨⟨20, rfl⟩, ⟨⟨21, rfl⟩, ⟨⟨22, rfl⟩, ⟨⟨23, rfl⟩, trivial⟩⟩⟩⟩⟩⟩⟩⟩ .slnil) (fun w1 hS => does_extract (vs := [.agg #[.bool ((ratS ((u * x + v * y) / (x * x + y * y)) ((v * x - u * y) / (x * x + y * y))).1.b1), .slice p43_1 (((ratS ((u * x + v * y) / (x * x + y * y)) ((v * x - u * y) / (x * x + y * y))).1.t1).length) p43_c1, .slice p43_2 (((ratS ((u * x + v * y) / (x * x + y * y)) ((v * x - u * y) / (x * x + y * y))).1.q1).length) p43_c2, .bool ((ratS ((u * x + v * y) / (x * x + y * y)) ((v * x - u * y) / (x * x + y * y))).1.b2), .slice p43_3 (((ratS ((u * x + v * y) / (x * x + y * y)) ((v * x - u * y) / (x * x + y * y))).1.t2).length) p43_c3, .slice p43_4 (((ratS ((u * x + v * y) / (x * x + y * y)) ((v * x - u * y) / (x * x + y * y))).1.q2).length) p43_c4], .int .i64 ((ratS ((u * x + v * y) / (x * x + y * y)) ((v * x - u * y) / (x * x + y * y))).2)]) rfl rfl) ?_
  intro a hA
  refine any_take (v := .int .i64 ((ratS ((u * x + v * y) / (x * x + y * y)) ((v * x - u * y) / (x * x + y * y))).2)) hA 8 rfl rfl rfl rfl (by kernel_rfl) (by kernel_rfl) (by kernel_rfl) (fun c a w h => hP c a _ _ w h) (hS.part (.cons _ (.cons_cons _ (.cons_cons _ .slnil))) ⟨⟨16, rfl⟩, ⟨⟨17, rfl⟩, ⟨⟨18, rfl⟩, ⟨⟨19, rfl⟩, ⟨⟨20, rfl⟩, ⟨⟨21, rfl⟩, ⟨⟨22, rfl⟩, ⟨⟨23, rfl⟩, trivial⟩⟩⟩⟩⟩⟩⟩⟩ .slnil) (fun w1 hS => does_extract (vs := [.agg #[.bool ((ratS ((u * x + v * y) / (x * x + y * y)) ((v * x - u * y) / (x * x + y * y))).1.b1), .slice p43_1 (((ratS ((u * x + v * y) / (x * x + y * y)) ((v * x - u * y) / (x * x + y * y))).1.t1).length) p43_c1, .slice p43_2 (((ratS ((u * x + v * y) / (x * x + y * y)) ((v * x - u * y) / (x * x + y * y))).1.q1).length) p43_c2, .bool ((ratS ((u * x + v * y) / (x * x + y * y)) ((v * x - u * y) / (x * x + y * y))).1.b2), .slice p43_3 (((ratS ((u * x + v * y) / (x * x + y * y)) ((v * x - u * y) / (x * x + y * y))).1.t2).length) p43_c3, .slice p43_4 (((ratS ((u * x + v * y) / (x * x + y * y)) ((v * x - u * y) / (x * x + y * y))).1.q2).length) p43_c4], .int .i64 ((ratS ((u * x + v * y) / (x * x + y * y)) ((v * x - u * y) / (x * x + y * y))).2)]) rfl rfl) ?_
  intro a hA
  refine any_one (by kernel_rfl) (op_store (us := [.bool ((ratS ((u * x + v * y) / (x * x + y * y)) ((v * x - u * y) / (x * x + y * y))).1.b1), .slice p43_1 (((ratS ((u * x + v * y) / (x * x + y * y)) ((v * x - u * y) / (x * x + y * y))).1.t1).length) p43_c1, .slice p43_2 (((ratS ((u * x + v * y) / (x * x + y * y)) ((v * x - u * y) / (x * x + y * y))).1.q1).length) p43_c2, .bool ((ratS ((u * x + v * y) / (x * x + y * y)) ((v * x - u * y) / (x * x + y * y))).1.b2), .slice p43_3 (((ratS ((u * x + v * y) / (x * x + y * y)) ((v * x - u * y) / (x * x + y * y))).1.t2).length) p43_c3, .slice p43_4 (((ratS ((u * x + v * y) / (x * x + y * y)) ((v * x - u * y) / (x * x + y * y))).1.q2).length) p43_c4]) hA hS 9 rfl rfl rfl (sets_store (cs := [.bool ((ratS ((u * x + v * y) / (x * x + y * y)) ((v * x - u * y) / (x * x + y * y))).1.b1), .slice p43_1 (((ratS ((u * x + v * y) / (x * x + y * y)) ((v * x - u * y) / (x * x + y * y))).1.t1).length) p43_c1, .slice p43_2 (((ratS ((u * x + v * y) / (x * x + y * y)) ((v * x - u * y) / (x * x + y * y))).1.q1).length) p43_c2, .bool ((ratS ((u * x + v * y) / (x * x + y * y)) ((v * x - u * y) / (x * x + y * y))).1.b2), .slice p43_3 (((ratS ((u * x + v * y) / (x * x + y * y)) ((v * x - u * y) / (x * x + y * y))).1.t2).length) p43_c3, .slice p43_4 (((ratS ((u * x + v * y) / (x * x + y * y)) ((v * x - u * y) / (x * x + y * y))).1.q2).length) p43_c4]) rfl rfl rfl (by kernel_rfl) hS 0 rfl rfl rfl) 0 rfl rfl rfl rfl ?_)
  intro w47 hS
  refine ⟨(hS.part (.cons _ (.cons_cons _ (.cons_cons _ .slnil))) ⟨⟨16, rfl⟩, ⟨⟨17, rfl⟩, ⟨⟨18, rfl⟩, ⟨⟨19, rfl⟩, ⟨⟨20, rfl⟩, ⟨⟨21, rfl⟩, ⟨⟨22, rfl⟩, ⟨⟨23, rfl⟩, trivial⟩⟩⟩⟩⟩⟩⟩⟩ .slnil), ?_⟩
  refine any_take hA 10 rfl rfl rfl rfl (by kernel_rfl) (by kernel_rfl) (by kernel_rfl) (fun c a w h => hP c a _ _ w h) (hS.part (.cons _ (.cons_cons _ (.cons_cons _ .slnil))) ⟨⟨16, rfl⟩, ⟨⟨17, rfl⟩, ⟨⟨18, rfl⟩, ⟨⟨19, rfl⟩, ⟨⟨20, rfl⟩, ⟨⟨21, rfl⟩, ⟨⟨22, rfl⟩, ⟨⟨23, rfl⟩, trivial⟩⟩⟩⟩⟩⟩⟩⟩ .slnil) (fun w1 hS => does_assign rfl) ?_
  intro a hA
  refine any_end (by kernel_rfl) ?_
  refine hK18 _ _ ?_
  refine wp_ret ?_
  refine hret _ _ ?_
  refine ends (v := .tuple #[.agg #[.bool ((ratS ((u * x + v * y) / (x * x + y * y)) ((v * x - u * y) / (x * x + y * y))).1.b1), .slice p43_1 (((ratS ((u * x + v * y) / (x * x + y * y)) ((v * x - u * y) / (x * x + y * y))).1.t1).length) p43_c1, .slice p43_2 (((ratS ((u * x + v * y) / (x * x + y * y)) ((v * x - u * y) / (x * x + y * y))).1.q1).length) p43_c2, .bool ((ratS ((u * x + v * y) / (x * x + y * y)) ((v * x - u * y) / (x * x + y * y))).1.b2), .slice p43_3 (((ratS ((u * x + v * y) / (x * x + y * y)) ((v * x - u * y) / (x * x + y * y))).1.t2).length) p43_c3, .slice p43_4 (((ratS ((u * x + v * y) / (x * x + y * y)) ((v * x - u * y) / (x * x + y * y))).1.q2).length) p43_c4], .int .i64 ((ratS ((u * x + v * y) / (x * x + y * y)) ((v * x - u * y) / (x * x + y * y))).2)]) hA rfl (.cons (res_cell hS ExL_isS_26 rfl 0 rfl (cs := [.bool ((ratS ((u * x + v * y) / (x * x + y * y)) ((v * x - u * y) / (x * x + y * y))).1.b1), .slice p43_1 (((ratS ((u * x + v * y) / (x * x + y * y)) ((v * x - u * y) / (x * x + y * y))).1.t1).length) p43_c1, .slice p43_2 (((ratS ((u * x + v * y) / (x * x + y * y)) ((v * x - u * y) / (x * x + y * y))).1.q1).length) p43_c2, .bool ((ratS ((u * x + v * y) / (x * x + y * y)) ((v * x - u * y) / (x * x + y * y))).1.b2), .slice p43_3 (((ratS ((u * x + v * y) / (x * x + y * y)) ((v * x - u * y) / (x * x + y * y))).1.t2).length) p43_c3, .slice p43_4 (((ratS ((u * x + v * y) / (x * x + y * y)) ((v * x - u * y) / (x * x + y * y))).1.q2).length) p43_c4]) rfl rfl) (.cons (res_tmp rfl) .nil)) rfl ?_
  exact ⟨p43_1, p43_c1, p43_2, p43_c2, p43_3, p43_c3, p43_4, p43_c4, rfl, ⟨⟨(hS.rd 3 rfl), hn44.s1.nil, hn44.s1.cap⟩, ⟨(hS.rd 2 rfl), hn44.s2.nil, hn44.s2.cap⟩, ⟨(hS.rd 1 rfl), hn44.s3.nil, hn44.s3.cap⟩, ⟨(hS.rd 0 rfl), hn44.s4.nil, hn44.s4.cap⟩⟩, hS.bel⟩
theorem divQ_any {w : World} {p q : Q6} {a1 a2 a3 a4 : Option Addr} {ac1 ac2 ac3 ac4 : Nat} (ha : Nm w p a1 ac1 a2 ac2 a3 ac3 a4 ac4) (hl : LenQ p) {u1 u2 u3 u4 : Option Addr} {uc1 uc2 uc3 uc4 : Nat} (hb : Nm w q u1 uc1 u2 uc2 u3 uc3 u4 uc4) (hm : LenQ q) : Calls Try.prog 14 #[numV p a1 ac1 a2 ac2 a3 ac3 a4 ac4, numV q u1 uc1 u2 uc2 u3 uc3 u4 uc4] w (AnsN w (divQ p q)) := by
  rcases sound_cases ha with h1 | ⟨u, v, rfl, hu, hv⟩
  · rw [show divQ p q = (Q6.zero, 2) from if_neg (fun k => by rw [h1] at k; cases k.1)]
    exact divE1_any ha hl hb hm h1
  · rcases sound_cases hb with h2 | ⟨x, y, rfl, hx, hy⟩
    · rw [show divQ _ q = (Q6.zero, 2) from if_neg (fun k => by rw [h2] at k; cases k.2)]
      exact divE2_any ha hl hb hm (soundQ_rat hu hv) h2
    · by_cases hz : x = 0 ∧ y = 0
      · rw [divQ_zero hu hv hx hy hz]
        exact divZ_any ha hb hu hv hx hy hz
      · rw [divQ_rat hu hv hx hy hz]
        exact divN_any ha hb hu hv hx hy hz
end Go.Proofs.Ytoafphdjdgaonaa
namespace Go.Proofs.Ytoafphdjdgaonaa
open Go.RowKit
set_option linter.unusedVariables false
set_option linter.unusedSimpArgs false
section
variable {P : Program} {t : TypeId} {x y : Operand} {a b : ByteArray}
theorem bin_addS (hm : a.size + b.size ≤ 9223372036854775807) : ∀ w, (do eqGuard .add t x y (.string a) (.string b); binOp .add t (.string a) (.string b) : Sem Value).run P w = .ok (.string (a ++ b)) w := fun w => by
  simp [go_sem]
  exact hm
theorem bin_eqlS (hu : P.underlying t = some .string) : ∀ w, (do eqGuard .eql t x y (.string a) (.string b); binOp .eql t (.string a) (.string b) : Sem Value).run P w = .ok (.bool (a.toList == b.toList)) w := fun w => by
  simp [go_sem, hu, run_underlying hu]
end
/-- An operation whose guard was passed over itself. -/
def staysU (l : List (Nat × Value)) (ops : List Oper) (o : Oper) : Bool :=
  match o.guard with
  | none => false
  | some (j, b) => match ops[j]? with
    | some oj => match oj.dst with
      | some d => match look l d with
        | some (.bool _) => false
        | some _ => true
        | none => false
      | none => false
    | none => false
section
variable {P : Program} {ops : List Oper} {Q : Exit → Act → World → Prop} {a : Act} {w w' : World} {n : Nat} {l : List (Nat × Value)} {o : Oper} {v : Value} {rest : List Oper}
theorem Sl.unwantedU (h : Sl a n l) (hp : staysU l ops o = true) : Region.wanted o (yielded ops.toArray a.tmps) = false := by
  unfold Region.wanted
  unfold staysU at hp
  split at hp
  · cases hp
  · rename_i j b hg
    rw [hg]
    split at hp
    · rename_i oj hj
      split at hp
      · rename_i d hd
        split at hp
        · cases hp
        · rename_i v' hb hv
          have := h.holds d _ hv
          cases v' <;> first | (exact absurd rfl (hb _)) | simp [yielded, hj, hd, this]
        · cases hp
      · cases hp
    · cases hp
theorem seq_skipU (hA : Sl a n l) (hg : staysU l ops o = true) {d : Nat} (hdst : o.dst = some d) (hd : Nat.blt d n = true)
    (hk : ∀ a', Sl a' n ((d, undef) :: l) → wpList P ops.toArray Q rest a' w) : wpList P ops.toArray Q (o :: rest) a w := by
  unfold wpList
  rw [hA.unwantedU hg, if_neg (by simp), hdst]
  exact hk _ (hA.put hd undef)
end
theorem words_digit {d : Nat} (h0 : d ≠ 0) (h : d < 4294967296) : words d = [d] := by
  rw [words_pos (by omega), Nat.mod_eq_of_lt h, Nat.div_eq_of_lt h, words_zero]
theorem textS_digit {d : Nat} (h0 : d ≠ 0) (h : d < 10) : textS [d] 10 = (bytesOf [48 + d], 0) := by
  have e := words_digit h0 (by omega)
  have hs : sound [d] = true := by rw [← e]; exact sound_of_words (by rw [e]; simp)
  have hv : val [d] = d := by rw [← e, val_words]
  unfold textS
  rw [hs, hv, if_pos rfl, if_pos (by decide), if_neg h0]
  have hd : digs 10 d = [d] := by
    rw [digs, dif_neg (by omega), digs, dif_pos (by omega), Nat.mod_eq_of_lt h]
  show (txt 10 d, (0 : Int)) = _
  unfold txt
  rw [hd]
  simp [dch, h]
theorem rat_whole {b : Bool} {x : Nat} (h : b.toNat ≤ x) : Q6.whole b x = Q6.rat ((sgn b x : Int) : Rat) 0 := by
  unfold Q6.whole Q6.rat
  rw [Rat.num_intCast, Rat.den_intCast, sgn_abs, words_one, show (0 : Rat).num = 0 from rfl, show (0 : Rat).den = 1 from rfl, words_one, show Int.natAbs 0 = 0 from rfl, words_zero, show rb 0 = false from rfl]
  have e : rb (sgn b x) = b := by
    unfold rb
    rw [sgn_neg]
    cases b with
    | false => rfl
    | true => simp at h; simp; omega
  rw [e]
theorem fitR_whole {b : Bool} {x : Nat} (h : (words x).length ≤ 512) : fitR ((sgn b x : Int) : Rat) := by
  unfold fitR
  rw [Rat.num_intCast, Rat.den_intCast, sgn_abs]
  exact ⟨h, one_len⟩
theorem fitR_zero : fitR 0 := by
  unfold fitR
  rw [show (0 : Rat).num = 0 from rfl, show (0 : Rat).den = 1 from rfl, show Int.natAbs 0 = 0 from rfl, words_zero]
  exact ⟨by decide, one_len⟩
/-- Minus three halves. -/
def Q6.half : Q6 := ⟨true, [3], [2], false, [], [1]⟩
def mh : Rat := mkRat (-3) 2
theorem half_rat : Q6.half = Q6.rat mh 0 := by
  unfold Q6.half Q6.rat
  rw [show mh.num = -3 from by decide +kernel, show mh.den = 2 from by decide +kernel, show (0 : Rat).num = 0 from rfl, show (0 : Rat).den = 1 from rfl, show Int.natAbs (-3) = 3 from rfl, show Int.natAbs 0 = 0 from rfl, words_zero, words_one, words_digit (d := 3) (by decide) (by decide), words_digit (d := 2) (by decide) (by decide)]
  rfl
theorem fit_mh : fitR mh := by
  unfold fitR
  rw [show mh.num = -3 from by decide +kernel, show mh.den = 2 from by decide +kernel, show Int.natAbs (-3) = 3 from rfl, words_digit (d := 3) (by decide) (by decide), words_digit (d := 2) (by decide) (by decide)]
  exact ⟨by decide, by decide⟩
theorem awake_div : divQ (Q6.whole false 6) (Q6.whole true 4) = (Q6.half, 0) := by
  have h6 : (words 6).length ≤ 512 := by rw [words_digit (by decide) (by decide)]; decide
  have h4 : (words 4).length ≤ 512 := by rw [words_digit (by decide) (by decide)]; decide
  rw [rat_whole (b := false) (x := 6) (by decide), rat_whole (b := true) (x := 4) (by decide), divQ_rat (fitR_whole h6) fitR_zero (fitR_whole h4) fitR_zero (fun h => by have := h.1; revert this; decide +kernel)]
  have e1 : ((((sgn false 6 : Int) : Rat) * ((sgn true 4 : Int) : Rat) + 0 * 0) / (((sgn true 4 : Int) : Rat) * ((sgn true 4 : Int) : Rat) + 0 * 0)) = mh := by decide +kernel
  have e2 : ((0 * ((sgn true 4 : Int) : Rat) - ((sgn false 6 : Int) : Rat) * 0) / (((sgn true 4 : Int) : Rat) * ((sgn true 4 : Int) : Rat) + 0 * 0)) = 0 := by decide +kernel
  rw [e1, e2, half_rat]
  unfold ratS
  rw [if_pos ⟨fit_mh, fitR_zero⟩]
theorem lenQ_half : LenQ Q6.half := ⟨by decide, by decide, by decide, by decide⟩
theorem sound_half : soundQ Q6.half = true := by rw [half_rat]; exact soundQ_rat fit_mh fitR_zero
theorem six_len : (words 6).length ≤ 512 := by rw [words_digit (by decide) (by decide)]; decide
theorem four_len : (words 4).length ≤ 512 := by rw [words_digit (by decide) (by decide)]; decide
end Go.Proofs.Ytoafphdjdgaonaa
namespace Go.Proofs.Ytoafphdjdgaonaa
open Go.RowKit
set_option linter.unusedVariables false
set_option linter.unusedSimpArgs false
set_option maxRecDepth 100000
theorem ExM_is1_22 : Is1 Try.prog 22 := ⟨⟨_, Try.underlying22, rfl⟩, by kernel_rfl⟩
theorem ExM_is1_4 : Is1 Try.prog 4 := ⟨⟨_, Try.underlying4, rfl⟩, by kernel_rfl⟩
theorem ExM_fld_24_0 : FieldAt Try.prog 24 0 0 := ⟨_, _, Try.underlying24, rfl, rfl, by kernel_rfl⟩
theorem ExM_fld_24_1 : FieldAt Try.prog 24 1 1 := ⟨_, _, Try.underlying24, rfl, rfl, by kernel_rfl⟩
theorem ExM_fld_24_2 : FieldAt Try.prog 24 2 2 := ⟨_, _, Try.underlying24, rfl, rfl, by kernel_rfl⟩
theorem ExM_fld_26_0 : FieldAt Try.prog 26 0 0 := ⟨_, _, Try.underlying26, rfl, rfl, by kernel_rfl⟩
theorem ExM_isS_24 : IsS Try.prog 24 3 := ⟨⟨_, Try.underlying24⟩, by kernel_rfl⟩
theorem ExM_isS_26 : IsS Try.prog 26 6 := ⟨⟨_, Try.underlying26⟩, by kernel_rfl⟩
theorem size32_any {w : World} {a1 a2 : Option Addr} {ac1 ac2 : Nat} (ha1 : Sc w a1 ac1 [3]) (ha2 : Sc w a2 ac2 [2]) : Calls Try.prog 85 #[.agg #[.bool true, .slice a1 1 ac1, .slice a2 1 ac2], .int .i64 10] w fun e w' => e = .returned (.string ⟨#[51, 47, 50]⟩) ∧ Below w.heap.size w w' := by
  have hS : St w w [] [(a2, [2]), (a1, [3])] [] := ((St.start w).addR ha1.rd).addR ha2.rd
  refine walk_of (l := [(0, .agg #[.bool true, .slice a1 1 ac1, .slice a2 1 ac2]), (1, .int .i64 10)]) Try.func85 rfl Try.ntmps85 rfl rfl ?_
  intro Q hret hnorm hP a hA
  refine wp_seq_k (fun K1 hK1 => ?_)
  refine wp_region_lit ?_
  refine seq_new (vs := [.bool true, .slice a1 1 ac1, .slice a2 1 ac2]) (t := 24) hA hS rfl rfl rfl (fun g => .pointer (some ⟨g, 0, none⟩)) (does_box rfl rfl) rfl ?_
  intro g2 w3 hS a hA
  refine seq_do hA rfl rfl rfl (does_assign rfl) ?_
  intro a hA
  refine seq_end ?_
  refine hK1 _ _ ?_
  refine wp_seq_k (fun K4 hK4 => ?_)
  refine wp_region_lit ?_
  refine seq_do (v := .pointer (some ⟨g2, 1, none⟩)) hA rfl rfl rfl (does_field ExM_fld_24_1 rfl rfl) ?_
  intro a hA
  refine seq_do hA rfl rfl rfl (does_load1 hS ExM_is1_22 rfl 0 rfl rfl) ?_
  intro a hA
  refine seq_do hA rfl rfl rfl (does_move rfl) ?_
  intro a hA
  refine seq_call hA rfl rfl rfl (enters_func  rfl rfl (fun w => by kernel_rfl)) ((by have h := text_any (a := [3]) ac1 10 (hS.rd 1 rfl) (by decide) (by decide) (by decide); rw [textS_digit (by decide) (by decide)] at h; exact h)) ?_
  rintro _ w6 ⟨rfl, hb5⟩
  replace hS := hS.call hb5
  refine ⟨_, rfl, ?_⟩
  intro a hA
  refine seq_do hA rfl rfl rfl (does_move rfl) ?_
  intro a hA
  refine seq_do (v := .string (⟨#[51]⟩)) hA rfl rfl rfl (does_extract (vs := [.string (⟨#[51]⟩), .int .i64 0]) rfl rfl) ?_
  intro a hA
  refine seq_do (v := .int .i64 0) hA rfl rfl rfl (does_extract (vs := [.string (⟨#[51]⟩), .int .i64 0]) rfl rfl) ?_
  intro a hA
  refine seq_do hA rfl rfl rfl (does_assign rfl) ?_
  intro a hA
  refine seq_do hA rfl rfl rfl (does_assign rfl) ?_
  intro a hA
  refine seq_end ?_
  refine hK4 _ _ ?_
  refine wp_seq_k (fun K7 hK7 => ?_)
  refine wp_seq_k (fun K8 hK8 => ?_)
  refine wp_region_lit ?_
  refine seq_do (v := .pointer (some ⟨g2, 2, none⟩)) hA rfl rfl rfl (does_field ExM_fld_24_2 rfl rfl) ?_
  intro a hA
  refine seq_do hA rfl rfl rfl (does_load1 hS ExM_is1_22 rfl 0 rfl rfl) ?_
  intro a hA
  refine seq_call hA rfl rfl rfl (enters_func  rfl rfl (fun w => by kernel_rfl)) (isOneQ_any _ (hS.rd 0 rfl) (by decide) (show decide ([2] = [1]) = false from by decide)) ?_
  rintro _ w10 ⟨rfl, hb9⟩
  replace hb9 := below_eq hb9
  replace hS := hS.call hb9
  refine ⟨_, rfl, ?_⟩
  intro a hA
  refine seq_end ?_
  refine hK8 _ _ ?_
  refine wp_cond_false (hA.ev rfl) ?_
  refine wp_skip ?_
  refine hK7 _ _ ?_
  refine wp_seq_k (fun K11 hK11 => ?_)
  refine wp_region_lit ?_
  refine seq_do (v := .pointer (some ⟨g2, 2, none⟩)) hA rfl rfl rfl (does_field ExM_fld_24_2 rfl rfl) ?_
  intro a hA
  refine seq_do hA rfl rfl rfl (does_load1 hS ExM_is1_22 rfl 0 rfl rfl) ?_
  intro a hA
  refine seq_do hA rfl rfl rfl (does_move rfl) ?_
  intro a hA
  refine seq_call hA rfl rfl rfl (enters_func  rfl rfl (fun w => by kernel_rfl)) ((by have h := text_any (a := [2]) ac2 10 (hS.rd 0 rfl) (by decide) (by decide) (by decide); rw [textS_digit (by decide) (by decide)] at h; exact h)) ?_
  rintro _ w13 ⟨rfl, hb12⟩
  replace hS := hS.call hb12
  refine ⟨_, rfl, ?_⟩
  intro a hA
  refine seq_do hA rfl rfl rfl (does_move rfl) ?_
  intro a hA
  refine seq_do (v := .string (⟨#[50]⟩)) hA rfl rfl rfl (does_extract (vs := [.string (⟨#[50]⟩), .int .i64 0]) rfl rfl) ?_
  intro a hA
  refine seq_do (v := .int .i64 0) hA rfl rfl rfl (does_extract (vs := [.string (⟨#[50]⟩), .int .i64 0]) rfl rfl) ?_
  intro a hA
  refine seq_do hA rfl rfl rfl (does_assign rfl) ?_
  intro a hA
  refine seq_do hA rfl rfl rfl (does_assign rfl) ?_
  intro a hA
  refine seq_end ?_
  refine hK11 _ _ ?_
  refine wp_seq_k (fun K14 hK14 => ?_)
  refine wp_region_lit ?_
  refine seq_do hA rfl rfl rfl (does_move rfl) ?_
  intro a hA
  refine seq_do (v := .string (⟨#[51, 47]⟩)) hA rfl rfl rfl (does_bin rfl rfl (fun w => by kernel_rfl)) ?_
  intro a hA
  refine seq_do hA rfl rfl rfl (does_move rfl) ?_
  intro a hA
  refine seq_do (v := .string (⟨#[51, 47, 50]⟩)) hA rfl rfl rfl (does_bin rfl rfl (fun w => by kernel_rfl)) ?_
  intro a hA
  refine seq_do hA rfl rfl rfl (does_assign rfl) ?_
  intro a hA
  refine seq_end ?_
  refine hK14 _ _ ?_
  refine wp_ret ?_
  refine hret _ _ ?_
  refine ends (v := .string (⟨#[51, 47, 50]⟩)) hA rfl (.cons (res_tmp rfl) .nil) rfl ?_
  exact ⟨rfl, hS.bel⟩
theorem real32_any {w : World} {a1 a2 : Option Addr} {ac1 ac2 : Nat} (ha1 : Sc w a1 ac1 [3]) (ha2 : Sc w a2 ac2 [2]) : Calls Try.prog 59 #[.agg #[.bool true, .slice a1 1 ac1, .slice a2 1 ac2], .int .i64 10] w fun e w' => e = .returned (.string ⟨#[45, 51, 47, 50]⟩) ∧ Below w.heap.size w w' := by
  have hS : St w w [] [(a2, [2]), (a1, [3])] [] := ((St.start w).addR ha1.rd).addR ha2.rd
  refine walk_of (l := [(0, .agg #[.bool true, .slice a1 1 ac1, .slice a2 1 ac2]), (1, .int .i64 10)]) Try.func59 rfl Try.ntmps59 rfl rfl ?_
  intro Q hret hnorm hP a hA
  refine wp_seq_k (fun K1 hK1 => ?_)
  refine wp_region_lit ?_
  refine seq_new (vs := [.bool true, .slice a1 1 ac1, .slice a2 1 ac2]) (t := 24) hA hS rfl rfl rfl (fun g => .pointer (some ⟨g, 0, none⟩)) (does_box rfl rfl) rfl ?_
  intro g2 w3 hS a hA
  refine seq_do hA rfl rfl rfl (does_assign rfl) ?_
  intro a hA
  refine seq_end ?_
  refine hK1 _ _ ?_
  refine wp_seq_k (fun K4 hK4 => ?_)
  refine wp_seq_k (fun K5 hK5 => ?_)
  refine wp_region_lit ?_
  refine seq_do (v := .pointer (some ⟨g2, 0, none⟩)) hA rfl rfl rfl (does_field ExM_fld_24_0 rfl rfl) ?_
  intro a hA
  refine seq_do hA rfl rfl rfl (does_load1 hS ExM_is1_4 rfl 0 rfl rfl) ?_
  intro a hA
  refine seq_end ?_
  refine hK5 _ _ ?_
  refine wp_cond_true (hA.ev rfl) ?_
  refine wp_seq_k (fun K6 hK6 => ?_)
  refine wp_region_lit ?_
  refine seq_do (v := .agg #[.bool true, .slice a1 1 ac1, .slice a2 1 ac2]) hA rfl rfl rfl (does_loadS hS ExM_isS_24 rfl 0 rfl (cs := [.bool true, .slice a1 1 ac1, .slice a2 1 ac2]) rfl rfl) ?_
  intro a hA
  refine seq_do hA rfl rfl rfl (does_move rfl) ?_
  intro a hA
  refine seq_call hA rfl rfl rfl (enters_func  rfl rfl (fun w => by kernel_rfl)) (size32_any ⟨(hS.rd 1 rfl), ha1.nil, ha1.cap⟩ ⟨(hS.rd 0 rfl), ha2.nil, ha2.cap⟩) ?_
  rintro _ w8 ⟨rfl, hb7⟩
  replace hS := hS.call hb7
  refine ⟨_, rfl, ?_⟩
  intro a hA
  refine seq_do (v := .string (⟨#[45, 51, 47, 50]⟩)) hA rfl rfl rfl (does_bin rfl rfl (fun w => by kernel_rfl)) ?_
  intro a hA
  refine seq_do hA rfl rfl rfl (does_assign rfl) ?_
  intro a hA
  refine seq_end ?_
  refine hK6 _ _ ?_
  refine wp_ret ?_
  refine hret _ _ ?_
  refine ends (v := .string (⟨#[45, 51, 47, 50]⟩)) hA rfl (.cons (res_tmp rfl) .nil) rfl ?_
  exact ⟨rfl, hS.bel⟩
theorem radix10_any {w : World} : Calls Try.prog 58 #[.int .i64 10] w fun e w' => e = .returned (.bool true) ∧ Below w.heap.size w w' := by
  have hS : St w w [] [] [] := St.start w
  refine walk_of (l := [(0, .int .i64 10)]) Try.func58 rfl Try.ntmps58 rfl rfl ?_
  intro Q hret hnorm hP a hA
  refine wp_seq_k (fun K1 hK1 => ?_)
  refine wp_region_lit ?_
  refine seq_do hA rfl rfl rfl (does_assign rfl) ?_
  intro a hA
  refine seq_end ?_
  refine hK1 _ _ ?_
  refine wp_seq_k (fun K2 hK2 => ?_)
  refine wp_seq_k (fun K3 hK3 => ?_)
  refine wp_region_lit ?_
  refine seq_do hA rfl rfl rfl (does_move rfl) ?_
  intro a hA
  refine seq_end ?_
  refine hK3 _ _ ?_
  refine wp_block ?_
  refine wp_seq_k (fun K4 hK4 => ?_)
  refine wp_seq_k (fun K5 hK5 => ?_)
  refine wp_region_lit ?_
  refine seq_do (v := .bool false) hA rfl rfl rfl (does_bin rfl rfl (fun w => by kernel_rfl)) ?_
  intro a hA
  refine seq_do hA rfl rfl rfl (does_assign rfl) ?_
  intro a hA
  refine seq_end ?_
  refine hK5 _ _ ?_
  refine wp_cond_false (hA.ev rfl) ?_
  refine wp_seq_k (fun K6 hK6 => ?_)
  refine wp_region_lit ?_
  refine seq_do (v := .bool false) hA rfl rfl rfl (does_bin rfl rfl (fun w => by kernel_rfl)) ?_
  intro a hA
  refine seq_do hA rfl rfl rfl (does_assign rfl) ?_
  intro a hA
  refine seq_end ?_
  refine hK6 _ _ ?_
  refine wp_cond_false (hA.ev rfl) ?_
  refine wp_seq_k (fun K7 hK7 => ?_)
  refine wp_region_lit ?_
  refine seq_do (v := .bool true) hA rfl rfl rfl (does_bin rfl rfl (fun w => by kernel_rfl)) ?_
  intro a hA
  refine seq_do hA rfl rfl rfl (does_assign rfl) ?_
  intro a hA
  refine seq_end ?_
  refine hK7 _ _ ?_
  refine wp_cond_true (hA.ev rfl) ?_
  refine wp_skip ?_
  refine hK4 _ _ ?_
  refine wp_cond_true (hA.ev rfl) ?_
  refine wp_seq_k (fun K8 hK8 => ?_)
  refine wp_region_lit ?_
  refine seq_do hA rfl rfl rfl (does_assign rfl) ?_
  intro a hA
  refine seq_end ?_
  refine hK8 _ _ ?_
  refine wp_ret ?_
  refine hret _ _ ?_
  refine ends (v := .bool true) hA rfl (.cons (res_tmp rfl) .nil) rfl ?_
  exact ⟨rfl, hS.bel⟩
theorem text32_any {w : World} {a1 a2 a3 a4 : Option Addr} {ac1 ac2 ac3 ac4 : Nat} (ha : Nm w Q6.half a1 ac1 a2 ac2 a3 ac3 a4 ac4) : Calls Try.prog 27 #[numV Q6.half a1 ac1 a2 ac2 a3 ac3 a4 ac4, .int .i64 10] w fun e w' => e = .returned (.tuple #[.string ⟨#[45, 51, 47, 50]⟩, .int .i64 0]) ∧ Below w.heap.size w w' := by
  have hS : St w w [] [(a4, [1]), (a3, []), (a2, [2]), (a1, [3])] [] := ((((St.start w).addR ha.s1.rd).addR ha.s2.rd).addR ha.s3.rd).addR ha.s4.rd
  refine walk_of (l := [(0, .agg #[.bool true, .slice a1 1 ac1, .slice a2 1 ac2, .bool false, .slice a3 0 ac3, .slice a4 1 ac4]), (1, .int .i64 10)]) Try.func27 rfl Try.ntmps27 rfl rfl ?_
  intro Q hret hnorm hP a hA
  refine wp_seq_k (fun K1 hK1 => ?_)
  refine wp_region_lit ?_
  refine seq_new (vs := [.bool true, .slice a1 1 ac1, .slice a2 1 ac2, .bool false, .slice a3 0 ac3, .slice a4 1 ac4]) (t := 26) hA hS rfl rfl rfl (fun g => .pointer (some ⟨g, 0, none⟩)) (does_box rfl rfl) rfl ?_
  intro g2 w3 hS a hA
  refine seq_do hA rfl rfl rfl (does_assign rfl) ?_
  intro a hA
  refine seq_do hA rfl rfl rfl (does_assign rfl) ?_
  intro a hA
  refine seq_end ?_
  refine hK1 _ _ ?_
  refine wp_seq_k (fun K4 hK4 => ?_)
  refine wp_seq_k (fun K5 hK5 => ?_)
  refine wp_region_lit ?_
  refine seq_do (v := .agg #[.bool true, .slice a1 1 ac1, .slice a2 1 ac2, .bool false, .slice a3 0 ac3, .slice a4 1 ac4]) hA rfl rfl rfl (does_loadS hS ExM_isS_26 rfl 0 rfl (cs := [.bool true, .slice a1 1 ac1, .slice a2 1 ac2, .bool false, .slice a3 0 ac3, .slice a4 1 ac4]) rfl rfl) ?_
  intro a hA
  refine seq_call hA rfl rfl rfl (enters_func  rfl rfl (fun w => by kernel_rfl)) (soundQ_any (show Nm _ Q6.half a1 ac1 a2 ac2 a3 ac3 a4 ac4 from ⟨⟨(hS.rd 3 rfl), ha.s1.nil, ha.s1.cap⟩, ⟨(hS.rd 2 rfl), ha.s2.nil, ha.s2.cap⟩, ⟨(hS.rd 1 rfl), ha.s3.nil, ha.s3.cap⟩, ⟨(hS.rd 0 rfl), ha.s4.nil, ha.s4.cap⟩⟩) lenQ_half sound_half) ?_
  rintro _ w7 ⟨rfl, hb6⟩
  replace hS := hS.call hb6
  refine ⟨_, rfl, ?_⟩
  intro a hA
  refine seq_do (v := .bool false) hA rfl rfl rfl (does_un rfl un_not) ?_
  intro a hA
  refine seq_end ?_
  refine hK5 _ _ ?_
  refine wp_cond_false (hA.ev rfl) ?_
  refine wp_skip ?_
  refine hK4 _ _ ?_
  refine wp_seq_k (fun K8 hK8 => ?_)
  refine wp_seq_k (fun K9 hK9 => ?_)
  refine wp_region_lit ?_
  refine seq_do hA rfl rfl rfl (does_move rfl) ?_
  intro a hA
  refine seq_call hA rfl rfl rfl (enters_func  rfl rfl (fun w => by kernel_rfl)) (radix10_any) ?_
  rintro _ w11 ⟨rfl, hb10⟩
  replace hS := hS.call hb10
  refine ⟨_, rfl, ?_⟩
  intro a hA
  refine seq_do (v := .bool false) hA rfl rfl rfl (does_un rfl un_not) ?_
  intro a hA
  refine seq_end ?_
  refine hK9 _ _ ?_
  refine wp_cond_false (hA.ev rfl) ?_
  refine wp_skip ?_
  refine hK8 _ _ ?_
  refine wp_seq_k (fun K12 hK12 => ?_)
  refine wp_seq_k (fun K13 hK13 => ?_)
  refine wp_region_lit ?_
  refine seq_do (v := .agg #[.bool true, .slice a1 1 ac1, .slice a2 1 ac2, .bool false, .slice a3 0 ac3, .slice a4 1 ac4]) hA rfl rfl rfl (does_loadS hS ExM_isS_26 rfl 0 rfl (cs := [.bool true, .slice a1 1 ac1, .slice a2 1 ac2, .bool false, .slice a3 0 ac3, .slice a4 1 ac4]) rfl rfl) ?_
  intro a hA
  refine seq_call hA rfl rfl rfl (enters_func  rfl rfl (fun w => by kernel_rfl)) (isRealQ_any (q := Q6.half) lenQ_half (show decide (Q6.half.t2.length = 0) = true from rfl)) ?_
  rintro _ w15 ⟨rfl, hb14⟩
  replace hS := hS.call hb14
  refine ⟨_, rfl, ?_⟩
  intro a hA
  refine seq_end ?_
  refine hK13 _ _ ?_
  refine wp_cond_true (hA.ev rfl) ?_
  refine wp_seq_k (fun K16 hK16 => ?_)
  refine wp_region_lit ?_
  refine seq_do (v := .pointer (some ⟨g2, 0, none⟩)) hA rfl rfl rfl (does_field ExM_fld_26_0 rfl rfl) ?_
  intro a hA
  refine seq_do (v := .agg #[.bool true, .slice a1 1 ac1, .slice a2 1 ac2]) hA rfl rfl rfl (does_loadS hS ExM_isS_24 rfl 0 rfl (cs := [.bool true, .slice a1 1 ac1, .slice a2 1 ac2]) rfl rfl) ?_
  intro a hA
  refine seq_do hA rfl rfl rfl (does_move rfl) ?_
  intro a hA
  refine seq_call hA rfl rfl rfl (enters_func  rfl rfl (fun w => by kernel_rfl)) (real32_any ⟨(hS.rd 3 rfl), ha.s1.nil, ha.s1.cap⟩ ⟨(hS.rd 2 rfl), ha.s2.nil, ha.s2.cap⟩) ?_
  rintro _ w18 ⟨rfl, hb17⟩
  replace hS := hS.call hb17
  refine ⟨_, rfl, ?_⟩
  intro a hA
  refine seq_do hA rfl rfl rfl (does_assign rfl) ?_
  intro a hA
  refine seq_do hA rfl rfl rfl (does_assign rfl) ?_
  intro a hA
  refine seq_end ?_
  refine hK16 _ _ ?_
  refine wp_ret ?_
  refine hret _ _ ?_
  refine ends (v := .tuple #[.string (⟨#[45, 51, 47, 50]⟩), .int .i64 0]) hA rfl (.cons (res_tmp rfl) (.cons (res_tmp rfl) .nil)) rfl ?_
  exact ⟨rfl, hS.bel⟩
theorem awake3_any {w : World} : Calls Try.prog 8 #[] w fun e w' => e = .returned (.bool true) ∧ Below w.heap.size w w' := by
  have hS : St w w [] [] [] := St.start w
  refine walk_of (l := []) Try.func8 rfl Try.ntmps8 rfl rfl ?_
  intro Q hret hnorm hP a hA
  refine wp_seq_k (fun K1 hK1 => ?_)
  refine wp_region_lit ?_
  refine seq_do hA rfl rfl rfl (does_assign rfl) ?_
  intro a hA
  refine seq_end ?_
  refine hK1 _ _ ?_
  refine wp_seq_k (fun K2 hK2 => ?_)
  refine wp_region_lit ?_
  refine seq_call hA rfl rfl rfl (enters_func  rfl rfl (fun w => by kernel_rfl)) ((show Calls Try.prog 15 #[.int .i64 (6)] _ (AnsV _ (Q6.whole false 6)) from intP_any (k := 6) (by decide))) ?_
  rintro _ w6 ⟨p3_1, p3_c1, p3_2, p3_c2, p3_3, p3_c3, p3_4, p3_c4, rfl, hn4, hb5⟩
  replace hS := hS.call hb5
  replace hS := hS.addR hn4.s1.rd
  replace hS := hS.addR hn4.s2.rd
  replace hS := hS.addR hn4.s3.rd
  replace hS := hS.addR hn4.s4.rd
  refine ⟨_, rfl, ?_⟩
  intro a hA
  refine seq_call hA rfl rfl rfl (enters_func  rfl rfl (fun w => by kernel_rfl)) ((show Calls Try.prog 15 #[.int .i64 (-4)] _ (AnsV _ (Q6.whole true 4)) from intN_any (k := 4) (by decide) (by decide))) ?_
  rintro _ w10 ⟨p7_1, p7_c1, p7_2, p7_c2, p7_3, p7_c3, p7_4, p7_c4, rfl, hn8, hb9⟩
  replace hS := hS.call hb9
  replace hS := hS.addR hn8.s1.rd
  replace hS := hS.addR hn8.s2.rd
  replace hS := hS.addR hn8.s3.rd
  replace hS := hS.addR hn8.s4.rd
  refine ⟨_, rfl, ?_⟩
  intro a hA
  refine seq_call hA rfl rfl rfl (enters_func  rfl rfl (fun w => by kernel_rfl)) ((awake_div ▸ divQ_any (p := Q6.whole false 6) (q := Q6.whole true 4) (show Nm _ _ p3_1 p3_c1 p3_2 p3_c2 p3_3 p3_c3 p3_4 p3_c4 from ⟨⟨(hS.rd 7 rfl), hn4.s1.nil, hn4.s1.cap⟩, ⟨(hS.rd 6 rfl), hn4.s2.nil, hn4.s2.cap⟩, ⟨(hS.rd 5 rfl), hn4.s3.nil, hn4.s3.cap⟩, ⟨(hS.rd 4 rfl), hn4.s4.nil, hn4.s4.cap⟩⟩) (lenQ_whole six_len) (show Nm _ _ p7_1 p7_c1 p7_2 p7_c2 p7_3 p7_c3 p7_4 p7_c4 from ⟨⟨(hS.rd 3 rfl), hn8.s1.nil, hn8.s1.cap⟩, ⟨(hS.rd 2 rfl), hn8.s2.nil, hn8.s2.cap⟩, ⟨(hS.rd 1 rfl), hn8.s3.nil, hn8.s3.cap⟩, ⟨(hS.rd 0 rfl), hn8.s4.nil, hn8.s4.cap⟩⟩) (lenQ_whole four_len))) ?_
  rintro _ w14 ⟨p11_1, p11_c1, p11_2, p11_c2, p11_3, p11_c3, p11_4, p11_c4, rfl, hn12, hb13⟩
  replace hS := hS.call hb13
  replace hS := hS.addR hn12.s1.rd
  replace hS := hS.addR hn12.s2.rd
  replace hS := hS.addR hn12.s3.rd
  replace hS := hS.addR hn12.s4.rd
  refine ⟨_, rfl, ?_⟩
  intro a hA
  refine seq_do hA rfl rfl rfl (does_move rfl) ?_
  intro a hA
  refine seq_do (v := .agg #[.bool true, .slice p11_1 1 p11_c1, .slice p11_2 1 p11_c2, .bool false, .slice p11_3 0 p11_c3, .slice p11_4 1 p11_c4]) hA rfl rfl rfl (does_extract (vs := [.agg #[.bool true, .slice p11_1 1 p11_c1, .slice p11_2 1 p11_c2, .bool false, .slice p11_3 0 p11_c3, .slice p11_4 1 p11_c4], .int .i64 0]) rfl rfl) ?_
  intro a hA
  refine seq_do (v := .int .i64 0) hA rfl rfl rfl (does_extract (vs := [.agg #[.bool true, .slice p11_1 1 p11_c1, .slice p11_2 1 p11_c2, .bool false, .slice p11_3 0 p11_c3, .slice p11_4 1 p11_c4], .int .i64 0]) rfl rfl) ?_
  intro a hA
  refine seq_new (vs := [.bool false, .slice none 0 0, .slice none 0 0, .bool false, .slice none 0 0, .slice none 0 0]) (t := 26) hA hS rfl rfl rfl (fun g => .pointer (some ⟨g, 0, none⟩)) (does_alloc (z := .agg #[.bool false, .slice none 0 0, .slice none 0 0, .bool false, .slice none 0 0, .slice none 0 0]) (by kernel_rfl) rfl) rfl ?_
  intro g15 w16 hS a hA
  refine seq_store (us := [.bool true, .slice p11_1 1 p11_c1, .slice p11_2 1 p11_c2, .bool false, .slice p11_3 0 p11_c3, .slice p11_4 1 p11_c4]) hA hS rfl rfl (sets_store (cs := [.bool true, .slice p11_1 1 p11_c1, .slice p11_2 1 p11_c2, .bool false, .slice p11_3 0 p11_c3, .slice p11_4 1 p11_c4]) rfl rfl rfl (by kernel_rfl) hS 0 rfl rfl rfl) 0 rfl rfl rfl rfl ?_
  intro w17 hS
  refine seq_do hA rfl rfl rfl (does_assign rfl) ?_
  intro a hA
  refine seq_end ?_
  refine hK2 _ _ ?_
  refine wp_seq_k (fun K18 hK18 => ?_)
  refine wp_region_lit ?_
  refine seq_do (v := .agg #[.bool true, .slice p11_1 1 p11_c1, .slice p11_2 1 p11_c2, .bool false, .slice p11_3 0 p11_c3, .slice p11_4 1 p11_c4]) hA rfl rfl rfl (does_loadS hS ExM_isS_26 rfl 0 rfl (cs := [.bool true, .slice p11_1 1 p11_c1, .slice p11_2 1 p11_c2, .bool false, .slice p11_3 0 p11_c3, .slice p11_4 1 p11_c4]) rfl rfl) ?_
  intro a hA
  refine seq_call hA rfl rfl rfl (enters_func  rfl rfl (fun w => by kernel_rfl)) (text32_any (show Nm _ Q6.half p11_1 p11_c1 p11_2 p11_c2 p11_3 p11_c3 p11_4 p11_c4 from ⟨⟨(hS.rd 3 rfl), hn12.s1.nil, hn12.s1.cap⟩, ⟨(hS.rd 2 rfl), hn12.s2.nil, hn12.s2.cap⟩, ⟨(hS.rd 1 rfl), hn12.s3.nil, hn12.s3.cap⟩, ⟨(hS.rd 0 rfl), hn12.s4.nil, hn12.s4.cap⟩⟩)) ?_
  rintro _ w20 ⟨rfl, hb19⟩
  replace hS := hS.call hb19
  refine ⟨_, rfl, ?_⟩
  intro a hA
  refine seq_do hA rfl rfl rfl (does_move rfl) ?_
  intro a hA
  refine seq_do (v := .string (⟨#[45, 51, 47, 50]⟩)) hA rfl rfl rfl (does_extract (vs := [.string (⟨#[45, 51, 47, 50]⟩), .int .i64 0]) rfl rfl) ?_
  intro a hA
  refine seq_do (v := .int .i64 0) hA rfl rfl rfl (does_extract (vs := [.string (⟨#[45, 51, 47, 50]⟩), .int .i64 0]) rfl rfl) ?_
  intro a hA
  refine seq_do hA rfl rfl rfl (does_assign rfl) ?_
  intro a hA
  refine seq_do hA rfl rfl rfl (does_assign rfl) ?_
  intro a hA
  refine seq_end ?_
  refine hK18 _ _ ?_
  refine wp_seq_k (fun K21 hK21 => ?_)
  refine wp_region_lit ?_
  refine seq_do hA rfl rfl rfl (does_move rfl) ?_
  intro a hA
  refine seq_do (v := .bool true) hA rfl rfl rfl (does_bin rfl rfl (fun w => by kernel_rfl)) ?_
  intro a hA
  refine seq_do hA rfl rfl rfl (does_move rfl) ?_
  intro a hA
  refine seq_do hA rfl rfl rfl (does_move rfl) ?_
  intro a hA
  refine seq_do (v := .bool true) hA rfl rfl rfl (does_bin rfl rfl (fun w => by kernel_rfl)) ?_
  intro a hA
  refine seq_do (v := .bool true) hA rfl rfl rfl (does_pick rfl rfl rfl rfl) ?_
  intro a hA
  refine seq_do hA rfl rfl rfl (does_move rfl) ?_
  intro a hA
  refine seq_do hA rfl rfl rfl (does_move rfl) ?_
  intro a hA
  refine seq_do (v := .bool true) hA rfl rfl rfl (does_bin rfl rfl (fun w => by kernel_rfl)) ?_
  intro a hA
  refine seq_do (v := .bool true) hA rfl rfl rfl (does_pick rfl rfl rfl rfl) ?_
  intro a hA
  refine seq_do hA rfl rfl rfl (does_assign rfl) ?_
  intro a hA
  refine seq_end ?_
  refine hK21 _ _ ?_
  refine wp_ret ?_
  refine hret _ _ ?_
  refine ends (v := .bool true) hA rfl (.cons (res_tmp rfl) .nil) rfl ?_
  exact ⟨rfl, hS.bel⟩
end Go.Proofs.Ytoafphdjdgaonaa
namespace Go.Proofs.Ytoafphdjdgaonaa
open Go.RowKit
set_option linter.unusedVariables false
set_option linter.unusedSimpArgs false
theorem bne0 {x : Int} (h : (x != 0) = false) : x = 0 := by simpa using h
theorem ratS_ok {u v : Rat} (h : (ratS u v).2 = 0) : ratS u v = (Q6.rat u v, 0) ∧ fitR u ∧ fitR v := by
  unfold ratS at *
  by_cases k : fitR u ∧ fitR v
  · rw [if_pos k]; exact ⟨rfl, k⟩
  · rw [if_neg k] at h; exact absurd h (by decide)
theorem ratS_fit {u v : Rat} (hu : fitR u) (hv : fitR v) : ratS u v = (Q6.rat u v, 0) := by
  unfold ratS
  rw [if_pos ⟨hu, hv⟩]
theorem zero_len : (words 0).length ≤ 512 := by rw [words_zero]; decide
theorem zero_whole : Q6.whole false 0 = Q6.rat 0 0 := rat_whole (b := false) (x := 0) (by decide)
theorem field_facts {m1 m2 n1 n2 k1 k2 : Rat} (hm1 : fitR m1) (hm2 : fitR m2) (hn1 : fitR n1) (hn2 : fitR n2) (hk1 : fitR k1) (hk2 : fitR k2)
    (he : (addQ (Q6.rat n1 n2) (Q6.rat k1 k2)).2 = 0) (hf : (mulQ (Q6.rat m1 m2) (addQ (Q6.rat n1 n2) (Q6.rat k1 k2)).1).2 = 0) (hg : (mulQ (Q6.rat n1 n2) (Q6.rat m1 m2)).2 = 0) (hh : (mulQ (Q6.rat m1 m2) (Q6.rat k1 k2)).2 = 0)
    (hi : (addQ (mulQ (Q6.rat n1 n2) (Q6.rat m1 m2)).1 (mulQ (Q6.rat m1 m2) (Q6.rat k1 k2)).1).2 = 0) :
    sameQ (mulQ (Q6.rat m1 m2) (addQ (Q6.rat n1 n2) (Q6.rat k1 k2)).1).1 (addQ (mulQ (Q6.rat n1 n2) (Q6.rat m1 m2)).1 (mulQ (Q6.rat m1 m2) (Q6.rat k1 k2)).1).1 = true ∧
    (subQ (addQ (Q6.rat n1 n2) (Q6.rat k1 k2)).1 (Q6.rat k1 k2)).2 = 0 ∧
    sameQ (subQ (addQ (Q6.rat n1 n2) (Q6.rat k1 k2)).1 (Q6.rat k1 k2)).1 (Q6.rat n1 n2) = true ∧
    (sameQ (Q6.rat m1 m2) (Q6.whole false 0) = true → (divQ (mulQ (Q6.rat n1 n2) (Q6.rat m1 m2)).1 (Q6.rat m1 m2)).2 = 3) ∧
    (sameQ (Q6.rat m1 m2) (Q6.whole false 0) = false → (divQ (mulQ (Q6.rat n1 n2) (Q6.rat m1 m2)).1 (Q6.rat m1 m2)).2 = 0 ∧ sameQ (divQ (mulQ (Q6.rat n1 n2) (Q6.rat m1 m2)).1 (Q6.rat m1 m2)).1 (Q6.rat n1 n2) = true) := by
  have E1 := addQ_rat hn1 hn2 hk1 hk2
  rw [E1] at he
  obtain ⟨e1, s1, s2⟩ := ratS_ok he
  have A1 := E1.trans e1
  simp only [A1] at hf ⊢
  have E2 := mulQ_rat hm1 hm2 s1 s2
  rw [E2] at hf
  obtain ⟨e2, l1, l2⟩ := ratS_ok hf
  have A2 := E2.trans e2
  have E3 := mulQ_rat hn1 hn2 hm1 hm2
  rw [E3] at hg
  obtain ⟨e3, x1, x2⟩ := ratS_ok hg
  have A3 := E3.trans e3
  have E4 := mulQ_rat hm1 hm2 hk1 hk2
  rw [E4] at hh
  obtain ⟨e4, y1, y2⟩ := ratS_ok hh
  have A4 := E4.trans e4
  simp only [A3, A4] at hi ⊢
  have E5 := addQ_rat x1 x2 y1 y2
  rw [E5] at hi
  obtain ⟨e5, t1, t2⟩ := ratS_ok hi
  have A5 := E5.trans e5
  simp only [A2, A5]
  rw [subQ_rat s1 s2 hk1 hk2]
  have d1 : n1 + k1 - k1 = n1 := by grind
  have d2 : n2 + k2 - k2 = n2 := by grind
  rw [d1, d2, ratS_fit hn1 hn2]
  simp only []
  refine ⟨?_, trivial, sameQ_self (soundQ_rat hn1 hn2), ?_, ?_⟩
  · rw [sameQ_rat l1 l2 t1 t2]
    exact decide_eq_true ⟨by grind, by grind⟩
  · intro hz
    rw [zero_whole, sameQ_rat hm1 hm2 fitR_zero fitR_zero, decide_eq_true_eq] at hz
    rw [divQ_zero x1 x2 hm1 hm2 hz]
  · intro hz
    rw [zero_whole, sameQ_rat hm1 hm2 fitR_zero fitR_zero, decide_eq_false_iff_not] at hz
    have hn : m1 * m1 + m2 * m2 ≠ 0 := (iv_mk (spD_ne m1 m2) (sp_ne hz) (spX_mk m1 m2) (spY_mk m1 m2)).2.2
    have c1 : ((n1 * m1 - n2 * m2) * m1 + (n1 * m2 + n2 * m1) * m2) / (m1 * m1 + m2 * m2) = n1 := by grind
    have c2 : ((n1 * m2 + n2 * m1) * m1 - (n1 * m1 - n2 * m2) * m2) / (m1 * m1 + m2 * m2) = n2 := by grind
    rw [divQ_rat x1 x2 hm1 hm2 hz, c1, c2, ratS_fit hn1 hn2]
    exact ⟨rfl, sameQ_self (soundQ_rat hn1 hn2)⟩
end Go.Proofs.Ytoafphdjdgaonaa
namespace Go.Proofs.Ytoafphdjdgaonaa
open Go.RowKit
set_option linter.unusedVariables false
set_option linter.unusedSimpArgs false
set_option maxRecDepth 100000
theorem ExN_isS_26 : IsS Try.prog 26 6 := ⟨⟨_, Try.underlying26⟩, by kernel_rfl⟩
theorem addQ_as {w : World} {p q : Q6} {a1 a2 a3 a4 : Option Addr} {ac1 ac2 ac3 ac4 : Nat} (ha : Nm w p a1 ac1 a2 ac2 a3 ac3 a4 ac4) (hl : LenQ p) {u1 u2 u3 u4 : Option Addr} {uc1 uc2 uc3 uc4 : Nat} (hb : Nm w q u1 uc1 u2 uc2 u3 uc3 u4 uc4) (hm : LenQ q) {z : Q6 × Int} (hz : addQ p q = z) : Calls Try.prog 10 #[numV p a1 ac1 a2 ac2 a3 ac3 a4 ac4, numV q u1 uc1 u2 uc2 u3 uc3 u4 uc4] w (AnsN w z) := hz ▸ addQ_any ha hl hb hm
theorem subQ_as {w : World} {p q : Q6} {a1 a2 a3 a4 : Option Addr} {ac1 ac2 ac3 ac4 : Nat} (ha : Nm w p a1 ac1 a2 ac2 a3 ac3 a4 ac4) (hl : LenQ p) {u1 u2 u3 u4 : Option Addr} {uc1 uc2 uc3 uc4 : Nat} (hb : Nm w q u1 uc1 u2 uc2 u3 uc3 u4 uc4) (hm : LenQ q) {z : Q6 × Int} (hz : subQ p q = z) : Calls Try.prog 12 #[numV p a1 ac1 a2 ac2 a3 ac3 a4 ac4, numV q u1 uc1 u2 uc2 u3 uc3 u4 uc4] w (AnsN w z) := hz ▸ subQ_any ha hl hb hm
theorem mulQ_as {w : World} {p q : Q6} {a1 a2 a3 a4 : Option Addr} {ac1 ac2 ac3 ac4 : Nat} (ha : Nm w p a1 ac1 a2 ac2 a3 ac3 a4 ac4) (hl : LenQ p) {u1 u2 u3 u4 : Option Addr} {uc1 uc2 uc3 uc4 : Nat} (hb : Nm w q u1 uc1 u2 uc2 u3 uc3 u4 uc4) (hm : LenQ q) {z : Q6 × Int} (hz : mulQ p q = z) : Calls Try.prog 11 #[numV p a1 ac1 a2 ac2 a3 ac3 a4 ac4, numV q u1 uc1 u2 uc2 u3 uc3 u4 uc4] w (AnsN w z) := hz ▸ mulQ_any ha hl hb hm
theorem divQ_as {w : World} {p q : Q6} {a1 a2 a3 a4 : Option Addr} {ac1 ac2 ac3 ac4 : Nat} (ha : Nm w p a1 ac1 a2 ac2 a3 ac3 a4 ac4) (hl : LenQ p) {u1 u2 u3 u4 : Option Addr} {uc1 uc2 uc3 uc4 : Nat} (hb : Nm w q u1 uc1 u2 uc2 u3 uc3 u4 uc4) (hm : LenQ q) {z : Q6 × Int} (hz : divQ p q = z) : Calls Try.prog 14 #[numV p a1 ac1 a2 ac2 a3 ac3 a4 ac4, numV q u1 uc1 u2 uc2 u3 uc3 u4 uc4] w (AnsN w z) := hz ▸ divQ_any ha hl hb hm
set_option maxHeartbeats 2000000 in
theorem fieldW_any {w : World} {p q r : Q6} {a1 a2 a3 a4 : Option Addr} {ac1 ac2 ac3 ac4 : Nat} (ha : Nm w p a1 ac1 a2 ac2 a3 ac3 a4 ac4) {u1 u2 u3 u4 : Option Addr} {uc1 uc2 uc3 uc4 : Nat} (hb : Nm w q u1 uc1 u2 uc2 u3 uc3 u4 uc4) {y1 y2 y3 y4 : Option Addr} {yc1 yc2 yc3 yc4 : Nat} (hc : Nm w r y1 yc1 y2 yc2 y3 yc3 y4 yc4) (hl : LenQ p) (hm : LenQ q) (ho : LenQ r) (h0 : soundQ p = true) (h1 : soundQ q = true) (h2 : soundQ r = true) {z1 : Q6 × Int} {z2 : Q6 × Int} {z3 : Q6 × Int} {z4 : Q6 × Int} {z5 : Q6 × Int} {z6 : Q6 × Int} {z7 : Q6 × Int} (e1 : addQ q r = z1) (l1 : LenQ z1.1) (e2 : mulQ p z1.1 = z2) (l2 : LenQ z2.1) (e3 : mulQ q p = z3) (l3 : LenQ z3.1) (e4 : mulQ p r = z4) (l4 : LenQ z4.1) (e5 : addQ z3.1 z4.1 = z5) (l5 : LenQ z5.1) (e6 : subQ z1.1 r = z6) (l6 : LenQ z6.1) (e7 : divQ z3.1 p = z7) (l7 : LenQ z7.1) (hF : z1.2 = 0 → z2.2 = 0 → z3.2 = 0 → z4.2 = 0 → z5.2 = 0 → sameQ z2.1 z5.1 = true ∧ z6.2 = 0 ∧ sameQ z6.1 q = true ∧ (sameQ p (Q6.whole false 0) = true → z7.2 = 3) ∧ (sameQ p (Q6.whole false 0) = false → z7.2 = 0 ∧ sameQ z7.1 q = true)) : Calls Try.prog 3 #[numV p a1 ac1 a2 ac2 a3 ac3 a4 ac4, numV q u1 uc1 u2 uc2 u3 uc3 u4 uc4, numV r y1 yc1 y2 yc2 y3 yc3 y4 yc4] w fun e w' => e = .returned (.bool true) ∧ Below w.heap.size w w' := by
  have hS : St w w [] [(y4, r.q2), (y3, r.t2), (y2, r.q1), (y1, r.t1), (u4, q.q2), (u3, q.t2), (u2, q.q1), (u1, q.t1), (a4, p.q2), (a3, p.t2), (a2, p.q1), (a1, p.t1)] [] := ((((((((((((St.start w).addR ha.s1.rd).addR ha.s2.rd).addR ha.s3.rd).addR ha.s4.rd).addR hb.s1.rd).addR hb.s2.rd).addR hb.s3.rd).addR hb.s4.rd).addR hc.s1.rd).addR hc.s2.rd).addR hc.s3.rd).addR hc.s4.rd
  refine walk_of (l := [(0, .agg #[.bool p.b1, .slice a1 p.t1.length ac1, .slice a2 p.q1.length ac2, .bool p.b2, .slice a3 p.t2.length ac3, .slice a4 p.q2.length ac4]), (1, .agg #[.bool q.b1, .slice u1 q.t1.length uc1, .slice u2 q.q1.length uc2, .bool q.b2, .slice u3 q.t2.length uc3, .slice u4 q.q2.length uc4]), (2, .agg #[.bool r.b1, .slice y1 r.t1.length yc1, .slice y2 r.q1.length yc2, .bool r.b2, .slice y3 r.t2.length yc3, .slice y4 r.q2.length yc4])]) Try.func3 rfl Try.ntmps3 rfl rfl ?_
  intro Q hret hnorm hP a hA
  refine wp_seq_k (fun K1 hK1 => ?_)
  refine wp_region_lit ?_
  refine seq_new (vs := [.bool p.b1, .slice a1 p.t1.length ac1, .slice a2 p.q1.length ac2, .bool p.b2, .slice a3 p.t2.length ac3, .slice a4 p.q2.length ac4]) (t := 26) hA hS rfl rfl rfl (fun g => .pointer (some ⟨g, 0, none⟩)) (does_box rfl rfl) rfl ?_
  intro g2 w3 hS a hA
  refine seq_new (vs := [.bool q.b1, .slice u1 q.t1.length uc1, .slice u2 q.q1.length uc2, .bool q.b2, .slice u3 q.t2.length uc3, .slice u4 q.q2.length uc4]) (t := 26) hA hS rfl rfl rfl (fun g => .pointer (some ⟨g, 0, none⟩)) (does_box rfl rfl) rfl ?_
  intro g4 w5 hS a hA
  refine seq_new (vs := [.bool r.b1, .slice y1 r.t1.length yc1, .slice y2 r.q1.length yc2, .bool r.b2, .slice y3 r.t2.length yc3, .slice y4 r.q2.length yc4]) (t := 26) hA hS rfl rfl rfl (fun g => .pointer (some ⟨g, 0, none⟩)) (does_box rfl rfl) rfl ?_
  intro g6 w7 hS a hA
  refine seq_do hA rfl rfl rfl (does_assign rfl) ?_
  intro a hA
  refine seq_end ?_
  refine hK1 _ _ ?_
  refine wp_seq_k (fun K8 hK8 => ?_)
  refine wp_seq_k (fun K9 hK9 => ?_)
  refine wp_region_lit ?_
  refine seq_call hA rfl rfl rfl (enters_func  rfl rfl (fun w => by kernel_rfl)) (awake3_any) ?_
  rintro _ w11 ⟨rfl, hb10⟩
  replace hS := hS.call hb10
  refine ⟨_, rfl, ?_⟩
  intro a hA
  refine seq_do (v := .bool false) hA rfl rfl rfl (does_un rfl un_not) ?_
  intro a hA
  refine seq_do hA rfl rfl rfl (does_move rfl) ?_
  intro a hA
  refine seq_do (v := .agg #[.bool p.b1, .slice a1 p.t1.length ac1, .slice a2 p.q1.length ac2, .bool p.b2, .slice a3 p.t2.length ac3, .slice a4 p.q2.length ac4]) hA rfl rfl rfl (does_loadS hS ExN_isS_26 rfl 2 rfl (cs := [.bool p.b1, .slice a1 p.t1.length ac1, .slice a2 p.q1.length ac2, .bool p.b2, .slice a3 p.t2.length ac3, .slice a4 p.q2.length ac4]) rfl rfl) ?_
  intro a hA
  refine seq_call hA rfl rfl rfl (enters_func  rfl rfl (fun w => by kernel_rfl)) (soundQ_any (show Nm _ p a1 ac1 a2 ac2 a3 ac3 a4 ac4 from ⟨⟨(hS.rd 11 rfl), ha.s1.nil, ha.s1.cap⟩, ⟨(hS.rd 10 rfl), ha.s2.nil, ha.s2.cap⟩, ⟨(hS.rd 9 rfl), ha.s3.nil, ha.s3.cap⟩, ⟨(hS.rd 8 rfl), ha.s4.nil, ha.s4.cap⟩⟩) hl h0) ?_
  rintro _ w13 ⟨rfl, hb12⟩
  replace hS := hS.call hb12
  refine ⟨_, rfl, ?_⟩
  intro a hA
  refine seq_do (v := .bool false) hA rfl rfl rfl (does_un rfl un_not) ?_
  intro a hA
  refine seq_do (v := .bool false) hA rfl rfl rfl (does_pick rfl rfl rfl rfl) ?_
  intro a hA
  refine seq_do hA rfl rfl rfl (does_move rfl) ?_
  intro a hA
  refine seq_do (v := .agg #[.bool q.b1, .slice u1 q.t1.length uc1, .slice u2 q.q1.length uc2, .bool q.b2, .slice u3 q.t2.length uc3, .slice u4 q.q2.length uc4]) hA rfl rfl rfl (does_loadS hS ExN_isS_26 rfl 1 rfl (cs := [.bool q.b1, .slice u1 q.t1.length uc1, .slice u2 q.q1.length uc2, .bool q.b2, .slice u3 q.t2.length uc3, .slice u4 q.q2.length uc4]) rfl rfl) ?_
  intro a hA
  refine seq_call hA rfl rfl rfl (enters_func  rfl rfl (fun w => by kernel_rfl)) (soundQ_any (show Nm _ q u1 uc1 u2 uc2 u3 uc3 u4 uc4 from ⟨⟨(hS.rd 7 rfl), hb.s1.nil, hb.s1.cap⟩, ⟨(hS.rd 6 rfl), hb.s2.nil, hb.s2.cap⟩, ⟨(hS.rd 5 rfl), hb.s3.nil, hb.s3.cap⟩, ⟨(hS.rd 4 rfl), hb.s4.nil, hb.s4.cap⟩⟩) hm h1) ?_
  rintro _ w15 ⟨rfl, hb14⟩
  replace hS := hS.call hb14
  refine ⟨_, rfl, ?_⟩
  intro a hA
  refine seq_do (v := .bool false) hA rfl rfl rfl (does_un rfl un_not) ?_
  intro a hA
  refine seq_do (v := .bool false) hA rfl rfl rfl (does_pick rfl rfl rfl rfl) ?_
  intro a hA
  refine seq_do hA rfl rfl rfl (does_move rfl) ?_
  intro a hA
  refine seq_do (v := .agg #[.bool r.b1, .slice y1 r.t1.length yc1, .slice y2 r.q1.length yc2, .bool r.b2, .slice y3 r.t2.length yc3, .slice y4 r.q2.length yc4]) hA rfl rfl rfl (does_loadS hS ExN_isS_26 rfl 0 rfl (cs := [.bool r.b1, .slice y1 r.t1.length yc1, .slice y2 r.q1.length yc2, .bool r.b2, .slice y3 r.t2.length yc3, .slice y4 r.q2.length yc4]) rfl rfl) ?_
  intro a hA
  refine seq_call hA rfl rfl rfl (enters_func  rfl rfl (fun w => by kernel_rfl)) (soundQ_any (show Nm _ r y1 yc1 y2 yc2 y3 yc3 y4 yc4 from ⟨⟨(hS.rd 3 rfl), hc.s1.nil, hc.s1.cap⟩, ⟨(hS.rd 2 rfl), hc.s2.nil, hc.s2.cap⟩, ⟨(hS.rd 1 rfl), hc.s3.nil, hc.s3.cap⟩, ⟨(hS.rd 0 rfl), hc.s4.nil, hc.s4.cap⟩⟩) ho h2) ?_
  rintro _ w17 ⟨rfl, hb16⟩
  replace hS := hS.call hb16
  refine ⟨_, rfl, ?_⟩
  intro a hA
  refine seq_do (v := .bool false) hA rfl rfl rfl (does_un rfl un_not) ?_
  intro a hA
  refine seq_do (v := .bool false) hA rfl rfl rfl (does_pick rfl rfl rfl rfl) ?_
  intro a hA
  refine seq_end ?_
  refine hK9 _ _ ?_
  refine wp_cond_false (hA.ev rfl) ?_
  refine wp_skip ?_
  refine hK8 _ _ ?_
  refine wp_seq_k (fun K18 hK18 => ?_)
  refine wp_region_lit ?_
  refine seq_do (v := .agg #[.bool q.b1, .slice u1 q.t1.length uc1, .slice u2 q.q1.length uc2, .bool q.b2, .slice u3 q.t2.length uc3, .slice u4 q.q2.length uc4]) hA rfl rfl rfl (does_loadS hS ExN_isS_26 rfl 1 rfl (cs := [.bool q.b1, .slice u1 q.t1.length uc1, .slice u2 q.q1.length uc2, .bool q.b2, .slice u3 q.t2.length uc3, .slice u4 q.q2.length uc4]) rfl rfl) ?_
  intro a hA
  refine seq_do (v := .agg #[.bool r.b1, .slice y1 r.t1.length yc1, .slice y2 r.q1.length yc2, .bool r.b2, .slice y3 r.t2.length yc3, .slice y4 r.q2.length yc4]) hA rfl rfl rfl (does_loadS hS ExN_isS_26 rfl 0 rfl (cs := [.bool r.b1, .slice y1 r.t1.length yc1, .slice y2 r.q1.length yc2, .bool r.b2, .slice y3 r.t2.length yc3, .slice y4 r.q2.length yc4]) rfl rfl) ?_
  intro a hA
  refine seq_call hA rfl rfl rfl (enters_func  rfl rfl (fun w => by kernel_rfl)) (addQ_as (show Nm _ q u1 uc1 u2 uc2 u3 uc3 u4 uc4 from ⟨⟨(hS.rd 7 rfl), hb.s1.nil, hb.s1.cap⟩, ⟨(hS.rd 6 rfl), hb.s2.nil, hb.s2.cap⟩, ⟨(hS.rd 5 rfl), hb.s3.nil, hb.s3.cap⟩, ⟨(hS.rd 4 rfl), hb.s4.nil, hb.s4.cap⟩⟩) hm (show Nm _ r y1 yc1 y2 yc2 y3 yc3 y4 yc4 from ⟨⟨(hS.rd 3 rfl), hc.s1.nil, hc.s1.cap⟩, ⟨(hS.rd 2 rfl), hc.s2.nil, hc.s2.cap⟩, ⟨(hS.rd 1 rfl), hc.s3.nil, hc.s3.cap⟩, ⟨(hS.rd 0 rfl), hc.s4.nil, hc.s4.cap⟩⟩) ho e1) ?_
  rintro _ w22 ⟨p19_1, p19_c1, p19_2, p19_c2, p19_3, p19_c3, p19_4, p19_c4, rfl, hn20, hb21⟩
  replace hS := hS.call hb21
  replace hS := hS.addR hn20.s1.rd
  replace hS := hS.addR hn20.s2.rd
  replace hS := hS.addR hn20.s3.rd
  replace hS := hS.addR hn20.s4.rd
  refine ⟨_, rfl, ?_⟩
  intro a hA
  refine seq_do hA rfl rfl rfl (does_move rfl) ?_
  intro a hA
  refine seq_do (v := .agg #[.bool z1.1.b1, .slice p19_1 z1.1.t1.length p19_c1, .slice p19_2 z1.1.q1.length p19_c2, .bool z1.1.b2, .slice p19_3 z1.1.t2.length p19_c3, .slice p19_4 z1.1.q2.length p19_c4]) hA rfl rfl rfl (does_extract (vs := [.agg #[.bool z1.1.b1, .slice p19_1 z1.1.t1.length p19_c1, .slice p19_2 z1.1.q1.length p19_c2, .bool z1.1.b2, .slice p19_3 z1.1.t2.length p19_c3, .slice p19_4 z1.1.q2.length p19_c4], .int .i64 z1.2]) rfl rfl) ?_
  intro a hA
  refine seq_do (v := .int .i64 z1.2) hA rfl rfl rfl (does_extract (vs := [.agg #[.bool z1.1.b1, .slice p19_1 z1.1.t1.length p19_c1, .slice p19_2 z1.1.q1.length p19_c2, .bool z1.1.b2, .slice p19_3 z1.1.t2.length p19_c3, .slice p19_4 z1.1.q2.length p19_c4], .int .i64 z1.2]) rfl rfl) ?_
  intro a hA
  refine seq_new (vs := [.bool false, .slice none 0 0, .slice none 0 0, .bool false, .slice none 0 0, .slice none 0 0]) (t := 26) hA hS rfl rfl rfl (fun g => .pointer (some ⟨g, 0, none⟩)) (does_alloc (z := .agg #[.bool false, .slice none 0 0, .slice none 0 0, .bool false, .slice none 0 0, .slice none 0 0]) (by kernel_rfl) rfl) rfl ?_
  intro g23 w24 hS a hA
  refine seq_store (us := [.bool z1.1.b1, .slice p19_1 z1.1.t1.length p19_c1, .slice p19_2 z1.1.q1.length p19_c2, .bool z1.1.b2, .slice p19_3 z1.1.t2.length p19_c3, .slice p19_4 z1.1.q2.length p19_c4]) hA hS rfl rfl (sets_store (cs := [.bool z1.1.b1, .slice p19_1 z1.1.t1.length p19_c1, .slice p19_2 z1.1.q1.length p19_c2, .bool z1.1.b2, .slice p19_3 z1.1.t2.length p19_c3, .slice p19_4 z1.1.q2.length p19_c4]) rfl rfl rfl (by kernel_rfl) hS 0 rfl rfl rfl) 0 rfl rfl rfl rfl ?_
  intro w25 hS
  refine seq_do hA rfl rfl rfl (does_assign rfl) ?_
  intro a hA
  refine seq_end ?_
  refine hK18 _ _ ?_
  refine wp_seq_k (fun K26 hK26 => ?_)
  refine wp_region_lit ?_
  refine seq_do (v := .agg #[.bool p.b1, .slice a1 p.t1.length ac1, .slice a2 p.q1.length ac2, .bool p.b2, .slice a3 p.t2.length ac3, .slice a4 p.q2.length ac4]) hA rfl rfl rfl (does_loadS hS ExN_isS_26 rfl 3 rfl (cs := [.bool p.b1, .slice a1 p.t1.length ac1, .slice a2 p.q1.length ac2, .bool p.b2, .slice a3 p.t2.length ac3, .slice a4 p.q2.length ac4]) rfl rfl) ?_
  intro a hA
  refine seq_do (v := .agg #[.bool z1.1.b1, .slice p19_1 z1.1.t1.length p19_c1, .slice p19_2 z1.1.q1.length p19_c2, .bool z1.1.b2, .slice p19_3 z1.1.t2.length p19_c3, .slice p19_4 z1.1.q2.length p19_c4]) hA rfl rfl rfl (does_loadS hS ExN_isS_26 rfl 0 rfl (cs := [.bool z1.1.b1, .slice p19_1 z1.1.t1.length p19_c1, .slice p19_2 z1.1.q1.length p19_c2, .bool z1.1.b2, .slice p19_3 z1.1.t2.length p19_c3, .slice p19_4 z1.1.q2.length p19_c4]) rfl rfl) ?_
  intro a hA
  refine seq_call hA rfl rfl rfl (enters_func  rfl rfl (fun w => by kernel_rfl)) (mulQ_as (show Nm _ p a1 ac1 a2 ac2 a3 ac3 a4 ac4 from ⟨⟨(hS.rd 15 rfl), ha.s1.nil, ha.s1.cap⟩, ⟨(hS.rd 14 rfl), ha.s2.nil, ha.s2.cap⟩, ⟨(hS.rd 13 rfl), ha.s3.nil, ha.s3.cap⟩, ⟨(hS.rd 12 rfl), ha.s4.nil, ha.s4.cap⟩⟩) hl (show Nm _ z1.1 p19_1 p19_c1 p19_2 p19_c2 p19_3 p19_c3 p19_4 p19_c4 from ⟨⟨(hS.rd 3 rfl), hn20.s1.nil, hn20.s1.cap⟩, ⟨(hS.rd 2 rfl), hn20.s2.nil, hn20.s2.cap⟩, ⟨(hS.rd 1 rfl), hn20.s3.nil, hn20.s3.cap⟩, ⟨(hS.rd 0 rfl), hn20.s4.nil, hn20.s4.cap⟩⟩) l1 e2) ?_
  rintro _ w30 ⟨p27_1, p27_c1, p27_2, p27_c2, p27_3, p27_c3, p27_4, p27_c4, rfl, hn28, hb29⟩
  replace hS := hS.call hb29
  replace hS := hS.addR hn28.s1.rd
  replace hS := hS.addR hn28.s2.rd
  replace hS := hS.addR hn28.s3.rd
  replace hS := hS.addR hn28.s4.rd
  refine ⟨_, rfl, ?_⟩
  intro a hA
  refine seq_do hA rfl rfl rfl (does_move rfl) ?_
  intro a hA
  refine seq_do (v := .agg #[.bool z2.1.b1, .slice p27_1 z2.1.t1.length p27_c1, .slice p27_2 z2.1.q1.length p27_c2, .bool z2.1.b2, .slice p27_3 z2.1.t2.length p27_c3, .slice p27_4 z2.1.q2.length p27_c4]) hA rfl rfl rfl (does_extract (vs := [.agg #[.bool z2.1.b1, .slice p27_1 z2.1.t1.length p27_c1, .slice p27_2 z2.1.q1.length p27_c2, .bool z2.1.b2, .slice p27_3 z2.1.t2.length p27_c3, .slice p27_4 z2.1.q2.length p27_c4], .int .i64 z2.2]) rfl rfl) ?_
  intro a hA
  refine seq_do (v := .int .i64 z2.2) hA rfl rfl rfl (does_extract (vs := [.agg #[.bool z2.1.b1, .slice p27_1 z2.1.t1.length p27_c1, .slice p27_2 z2.1.q1.length p27_c2, .bool z2.1.b2, .slice p27_3 z2.1.t2.length p27_c3, .slice p27_4 z2.1.q2.length p27_c4], .int .i64 z2.2]) rfl rfl) ?_
  intro a hA
  refine seq_new (vs := [.bool false, .slice none 0 0, .slice none 0 0, .bool false, .slice none 0 0, .slice none 0 0]) (t := 26) hA hS rfl rfl rfl (fun g => .pointer (some ⟨g, 0, none⟩)) (does_alloc (z := .agg #[.bool false, .slice none 0 0, .slice none 0 0, .bool false, .slice none 0 0, .slice none 0 0]) (by kernel_rfl) rfl) rfl ?_
  intro g31 w32 hS a hA
  refine seq_store (us := [.bool z2.1.b1, .slice p27_1 z2.1.t1.length p27_c1, .slice p27_2 z2.1.q1.length p27_c2, .bool z2.1.b2, .slice p27_3 z2.1.t2.length p27_c3, .slice p27_4 z2.1.q2.length p27_c4]) hA hS rfl rfl (sets_store (cs := [.bool z2.1.b1, .slice p27_1 z2.1.t1.length p27_c1, .slice p27_2 z2.1.q1.length p27_c2, .bool z2.1.b2, .slice p27_3 z2.1.t2.length p27_c3, .slice p27_4 z2.1.q2.length p27_c4]) rfl rfl rfl (by kernel_rfl) hS 0 rfl rfl rfl) 0 rfl rfl rfl rfl ?_
  intro w33 hS
  refine seq_do hA rfl rfl rfl (does_assign rfl) ?_
  intro a hA
  refine seq_end ?_
  refine hK26 _ _ ?_
  refine wp_seq_k (fun K34 hK34 => ?_)
  refine wp_region_lit ?_
  refine seq_do (v := .agg #[.bool q.b1, .slice u1 q.t1.length uc1, .slice u2 q.q1.length uc2, .bool q.b2, .slice u3 q.t2.length uc3, .slice u4 q.q2.length uc4]) hA rfl rfl rfl (does_loadS hS ExN_isS_26 rfl 3 rfl (cs := [.bool q.b1, .slice u1 q.t1.length uc1, .slice u2 q.q1.length uc2, .bool q.b2, .slice u3 q.t2.length uc3, .slice u4 q.q2.length uc4]) rfl rfl) ?_
  intro a hA
  refine seq_do (v := .agg #[.bool p.b1, .slice a1 p.t1.length ac1, .slice a2 p.q1.length ac2, .bool p.b2, .slice a3 p.t2.length ac3, .slice a4 p.q2.length ac4]) hA rfl rfl rfl (does_loadS hS ExN_isS_26 rfl 4 rfl (cs := [.bool p.b1, .slice a1 p.t1.length ac1, .slice a2 p.q1.length ac2, .bool p.b2, .slice a3 p.t2.length ac3, .slice a4 p.q2.length ac4]) rfl rfl) ?_
  intro a hA
  refine seq_call hA rfl rfl rfl (enters_func  rfl rfl (fun w => by kernel_rfl)) (mulQ_as (show Nm _ q u1 uc1 u2 uc2 u3 uc3 u4 uc4 from ⟨⟨(hS.rd 15 rfl), hb.s1.nil, hb.s1.cap⟩, ⟨(hS.rd 14 rfl), hb.s2.nil, hb.s2.cap⟩, ⟨(hS.rd 13 rfl), hb.s3.nil, hb.s3.cap⟩, ⟨(hS.rd 12 rfl), hb.s4.nil, hb.s4.cap⟩⟩) hm (show Nm _ p a1 ac1 a2 ac2 a3 ac3 a4 ac4 from ⟨⟨(hS.rd 19 rfl), ha.s1.nil, ha.s1.cap⟩, ⟨(hS.rd 18 rfl), ha.s2.nil, ha.s2.cap⟩, ⟨(hS.rd 17 rfl), ha.s3.nil, ha.s3.cap⟩, ⟨(hS.rd 16 rfl), ha.s4.nil, ha.s4.cap⟩⟩) hl e3) ?_
  rintro _ w38 ⟨p35_1, p35_c1, p35_2, p35_c2, p35_3, p35_c3, p35_4, p35_c4, rfl, hn36, hb37⟩
  replace hS := hS.call hb37
  replace hS := hS.addR hn36.s1.rd
  replace hS := hS.addR hn36.s2.rd
  replace hS := hS.addR hn36.s3.rd
  replace hS := hS.addR hn36.s4.rd
  refine ⟨_, rfl, ?_⟩
  intro a hA
  refine seq_do hA rfl rfl rfl (does_move rfl) ?_
  intro a hA
  refine seq_do (v := .agg #[.bool z3.1.b1, .slice p35_1 z3.1.t1.length p35_c1, .slice p35_2 z3.1.q1.length p35_c2, .bool z3.1.b2, .slice p35_3 z3.1.t2.length p35_c3, .slice p35_4 z3.1.q2.length p35_c4]) hA rfl rfl rfl (does_extract (vs := [.agg #[.bool z3.1.b1, .slice p35_1 z3.1.t1.length p35_c1, .slice p35_2 z3.1.q1.length p35_c2, .bool z3.1.b2, .slice p35_3 z3.1.t2.length p35_c3, .slice p35_4 z3.1.q2.length p35_c4], .int .i64 z3.2]) rfl rfl) ?_
  intro a hA
  refine seq_do (v := .int .i64 z3.2) hA rfl rfl rfl (does_extract (vs := [.agg #[.bool z3.1.b1, .slice p35_1 z3.1.t1.length p35_c1, .slice p35_2 z3.1.q1.length p35_c2, .bool z3.1.b2, .slice p35_3 z3.1.t2.length p35_c3, .slice p35_4 z3.1.q2.length p35_c4], .int .i64 z3.2]) rfl rfl) ?_
  intro a hA
  refine seq_new (vs := [.bool false, .slice none 0 0, .slice none 0 0, .bool false, .slice none 0 0, .slice none 0 0]) (t := 26) hA hS rfl rfl rfl (fun g => .pointer (some ⟨g, 0, none⟩)) (does_alloc (z := .agg #[.bool false, .slice none 0 0, .slice none 0 0, .bool false, .slice none 0 0, .slice none 0 0]) (by kernel_rfl) rfl) rfl ?_
  intro g39 w40 hS a hA
  refine seq_store (us := [.bool z3.1.b1, .slice p35_1 z3.1.t1.length p35_c1, .slice p35_2 z3.1.q1.length p35_c2, .bool z3.1.b2, .slice p35_3 z3.1.t2.length p35_c3, .slice p35_4 z3.1.q2.length p35_c4]) hA hS rfl rfl (sets_store (cs := [.bool z3.1.b1, .slice p35_1 z3.1.t1.length p35_c1, .slice p35_2 z3.1.q1.length p35_c2, .bool z3.1.b2, .slice p35_3 z3.1.t2.length p35_c3, .slice p35_4 z3.1.q2.length p35_c4]) rfl rfl rfl (by kernel_rfl) hS 0 rfl rfl rfl) 0 rfl rfl rfl rfl ?_
  intro w41 hS
  refine seq_do hA rfl rfl rfl (does_assign rfl) ?_
  intro a hA
  refine seq_end ?_
  refine hK34 _ _ ?_
  refine wp_seq_k (fun K42 hK42 => ?_)
  refine wp_region_lit ?_
  refine seq_do (v := .agg #[.bool p.b1, .slice a1 p.t1.length ac1, .slice a2 p.q1.length ac2, .bool p.b2, .slice a3 p.t2.length ac3, .slice a4 p.q2.length ac4]) hA rfl rfl rfl (does_loadS hS ExN_isS_26 rfl 5 rfl (cs := [.bool p.b1, .slice a1 p.t1.length ac1, .slice a2 p.q1.length ac2, .bool p.b2, .slice a3 p.t2.length ac3, .slice a4 p.q2.length ac4]) rfl rfl) ?_
  intro a hA
  refine seq_do (v := .agg #[.bool r.b1, .slice y1 r.t1.length yc1, .slice y2 r.q1.length yc2, .bool r.b2, .slice y3 r.t2.length yc3, .slice y4 r.q2.length yc4]) hA rfl rfl rfl (does_loadS hS ExN_isS_26 rfl 3 rfl (cs := [.bool r.b1, .slice y1 r.t1.length yc1, .slice y2 r.q1.length yc2, .bool r.b2, .slice y3 r.t2.length yc3, .slice y4 r.q2.length yc4]) rfl rfl) ?_
  intro a hA
  refine seq_call hA rfl rfl rfl (enters_func  rfl rfl (fun w => by kernel_rfl)) (mulQ_as (show Nm _ p a1 ac1 a2 ac2 a3 ac3 a4 ac4 from ⟨⟨(hS.rd 23 rfl), ha.s1.nil, ha.s1.cap⟩, ⟨(hS.rd 22 rfl), ha.s2.nil, ha.s2.cap⟩, ⟨(hS.rd 21 rfl), ha.s3.nil, ha.s3.cap⟩, ⟨(hS.rd 20 rfl), ha.s4.nil, ha.s4.cap⟩⟩) hl (show Nm _ r y1 yc1 y2 yc2 y3 yc3 y4 yc4 from ⟨⟨(hS.rd 15 rfl), hc.s1.nil, hc.s1.cap⟩, ⟨(hS.rd 14 rfl), hc.s2.nil, hc.s2.cap⟩, ⟨(hS.rd 13 rfl), hc.s3.nil, hc.s3.cap⟩, ⟨(hS.rd 12 rfl), hc.s4.nil, hc.s4.cap⟩⟩) ho e4) ?_
  rintro _ w46 ⟨p43_1, p43_c1, p43_2, p43_c2, p43_3, p43_c3, p43_4, p43_c4, rfl, hn44, hb45⟩
  replace hS := hS.call hb45
  replace hS := hS.addR hn44.s1.rd
  replace hS := hS.addR hn44.s2.rd
  replace hS := hS.addR hn44.s3.rd
  replace hS := hS.addR hn44.s4.rd
  refine ⟨_, rfl, ?_⟩
  intro a hA
  refine seq_do hA rfl rfl rfl (does_move rfl) ?_
  intro a hA
  refine seq_do (v := .agg #[.bool z4.1.b1, .slice p43_1 z4.1.t1.length p43_c1, .slice p43_2 z4.1.q1.length p43_c2, .bool z4.1.b2, .slice p43_3 z4.1.t2.length p43_c3, .slice p43_4 z4.1.q2.length p43_c4]) hA rfl rfl rfl (does_extract (vs := [.agg #[.bool z4.1.b1, .slice p43_1 z4.1.t1.length p43_c1, .slice p43_2 z4.1.q1.length p43_c2, .bool z4.1.b2, .slice p43_3 z4.1.t2.length p43_c3, .slice p43_4 z4.1.q2.length p43_c4], .int .i64 z4.2]) rfl rfl) ?_
  intro a hA
  refine seq_do (v := .int .i64 z4.2) hA rfl rfl rfl (does_extract (vs := [.agg #[.bool z4.1.b1, .slice p43_1 z4.1.t1.length p43_c1, .slice p43_2 z4.1.q1.length p43_c2, .bool z4.1.b2, .slice p43_3 z4.1.t2.length p43_c3, .slice p43_4 z4.1.q2.length p43_c4], .int .i64 z4.2]) rfl rfl) ?_
  intro a hA
  refine seq_new (vs := [.bool false, .slice none 0 0, .slice none 0 0, .bool false, .slice none 0 0, .slice none 0 0]) (t := 26) hA hS rfl rfl rfl (fun g => .pointer (some ⟨g, 0, none⟩)) (does_alloc (z := .agg #[.bool false, .slice none 0 0, .slice none 0 0, .bool false, .slice none 0 0, .slice none 0 0]) (by kernel_rfl) rfl) rfl ?_
  intro g47 w48 hS a hA
  refine seq_store (us := [.bool z4.1.b1, .slice p43_1 z4.1.t1.length p43_c1, .slice p43_2 z4.1.q1.length p43_c2, .bool z4.1.b2, .slice p43_3 z4.1.t2.length p43_c3, .slice p43_4 z4.1.q2.length p43_c4]) hA hS rfl rfl (sets_store (cs := [.bool z4.1.b1, .slice p43_1 z4.1.t1.length p43_c1, .slice p43_2 z4.1.q1.length p43_c2, .bool z4.1.b2, .slice p43_3 z4.1.t2.length p43_c3, .slice p43_4 z4.1.q2.length p43_c4]) rfl rfl rfl (by kernel_rfl) hS 0 rfl rfl rfl) 0 rfl rfl rfl rfl ?_
  intro w49 hS
  refine seq_do hA rfl rfl rfl (does_assign rfl) ?_
  intro a hA
  refine seq_end ?_
  refine hK42 _ _ ?_
  refine wp_seq_k (fun K50 hK50 => ?_)
  refine wp_region_lit ?_
  refine seq_do (v := .agg #[.bool z3.1.b1, .slice p35_1 z3.1.t1.length p35_c1, .slice p35_2 z3.1.q1.length p35_c2, .bool z3.1.b2, .slice p35_3 z3.1.t2.length p35_c3, .slice p35_4 z3.1.q2.length p35_c4]) hA rfl rfl rfl (does_loadS hS ExN_isS_26 rfl 1 rfl (cs := [.bool z3.1.b1, .slice p35_1 z3.1.t1.length p35_c1, .slice p35_2 z3.1.q1.length p35_c2, .bool z3.1.b2, .slice p35_3 z3.1.t2.length p35_c3, .slice p35_4 z3.1.q2.length p35_c4]) rfl rfl) ?_
  intro a hA
  refine seq_do (v := .agg #[.bool z4.1.b1, .slice p43_1 z4.1.t1.length p43_c1, .slice p43_2 z4.1.q1.length p43_c2, .bool z4.1.b2, .slice p43_3 z4.1.t2.length p43_c3, .slice p43_4 z4.1.q2.length p43_c4]) hA rfl rfl rfl (does_loadS hS ExN_isS_26 rfl 0 rfl (cs := [.bool z4.1.b1, .slice p43_1 z4.1.t1.length p43_c1, .slice p43_2 z4.1.q1.length p43_c2, .bool z4.1.b2, .slice p43_3 z4.1.t2.length p43_c3, .slice p43_4 z4.1.q2.length p43_c4]) rfl rfl) ?_
  intro a hA
  refine seq_call hA rfl rfl rfl (enters_func  rfl rfl (fun w => by kernel_rfl)) (addQ_as (show Nm _ z3.1 p35_1 p35_c1 p35_2 p35_c2 p35_3 p35_c3 p35_4 p35_c4 from ⟨⟨(hS.rd 7 rfl), hn36.s1.nil, hn36.s1.cap⟩, ⟨(hS.rd 6 rfl), hn36.s2.nil, hn36.s2.cap⟩, ⟨(hS.rd 5 rfl), hn36.s3.nil, hn36.s3.cap⟩, ⟨(hS.rd 4 rfl), hn36.s4.nil, hn36.s4.cap⟩⟩) l3 (show Nm _ z4.1 p43_1 p43_c1 p43_2 p43_c2 p43_3 p43_c3 p43_4 p43_c4 from ⟨⟨(hS.rd 3 rfl), hn44.s1.nil, hn44.s1.cap⟩, ⟨(hS.rd 2 rfl), hn44.s2.nil, hn44.s2.cap⟩, ⟨(hS.rd 1 rfl), hn44.s3.nil, hn44.s3.cap⟩, ⟨(hS.rd 0 rfl), hn44.s4.nil, hn44.s4.cap⟩⟩) l4 e5) ?_
  rintro _ w54 ⟨p51_1, p51_c1, p51_2, p51_c2, p51_3, p51_c3, p51_4, p51_c4, rfl, hn52, hb53⟩
  replace hS := hS.call hb53
  replace hS := hS.addR hn52.s1.rd
  replace hS := hS.addR hn52.s2.rd
  replace hS := hS.addR hn52.s3.rd
  replace hS := hS.addR hn52.s4.rd
  refine ⟨_, rfl, ?_⟩
  intro a hA
  refine seq_do hA rfl rfl rfl (does_move rfl) ?_
  intro a hA
  refine seq_do (v := .agg #[.bool z5.1.b1, .slice p51_1 z5.1.t1.length p51_c1, .slice p51_2 z5.1.q1.length p51_c2, .bool z5.1.b2, .slice p51_3 z5.1.t2.length p51_c3, .slice p51_4 z5.1.q2.length p51_c4]) hA rfl rfl rfl (does_extract (vs := [.agg #[.bool z5.1.b1, .slice p51_1 z5.1.t1.length p51_c1, .slice p51_2 z5.1.q1.length p51_c2, .bool z5.1.b2, .slice p51_3 z5.1.t2.length p51_c3, .slice p51_4 z5.1.q2.length p51_c4], .int .i64 z5.2]) rfl rfl) ?_
  intro a hA
  refine seq_do (v := .int .i64 z5.2) hA rfl rfl rfl (does_extract (vs := [.agg #[.bool z5.1.b1, .slice p51_1 z5.1.t1.length p51_c1, .slice p51_2 z5.1.q1.length p51_c2, .bool z5.1.b2, .slice p51_3 z5.1.t2.length p51_c3, .slice p51_4 z5.1.q2.length p51_c4], .int .i64 z5.2]) rfl rfl) ?_
  intro a hA
  refine seq_new (vs := [.bool false, .slice none 0 0, .slice none 0 0, .bool false, .slice none 0 0, .slice none 0 0]) (t := 26) hA hS rfl rfl rfl (fun g => .pointer (some ⟨g, 0, none⟩)) (does_alloc (z := .agg #[.bool false, .slice none 0 0, .slice none 0 0, .bool false, .slice none 0 0, .slice none 0 0]) (by kernel_rfl) rfl) rfl ?_
  intro g55 w56 hS a hA
  refine seq_store (us := [.bool z5.1.b1, .slice p51_1 z5.1.t1.length p51_c1, .slice p51_2 z5.1.q1.length p51_c2, .bool z5.1.b2, .slice p51_3 z5.1.t2.length p51_c3, .slice p51_4 z5.1.q2.length p51_c4]) hA hS rfl rfl (sets_store (cs := [.bool z5.1.b1, .slice p51_1 z5.1.t1.length p51_c1, .slice p51_2 z5.1.q1.length p51_c2, .bool z5.1.b2, .slice p51_3 z5.1.t2.length p51_c3, .slice p51_4 z5.1.q2.length p51_c4]) rfl rfl rfl (by kernel_rfl) hS 0 rfl rfl rfl) 0 rfl rfl rfl rfl ?_
  intro w57 hS
  refine seq_do hA rfl rfl rfl (does_assign rfl) ?_
  intro a hA
  refine seq_end ?_
  refine hK50 _ _ ?_
  refine wp_seq_k (fun K58 hK58 => ?_)
  refine wp_seq_k (fun K59 hK59 => ?_)
  refine wp_region_lit ?_
  refine seq_do hA rfl rfl rfl (does_move rfl) ?_
  intro a hA
  rcases Bool.eq_false_or_eq_true ((z1.2 != 0)) with hb60 | hb60
  · have hb60' := bne_iff_ne.1 hb60
    refine seq_do (v := .bool true) hA rfl rfl rfl (does_bin rfl rfl (fun w => (bin_neq w).trans (by rw [hb60]))) ?_
    intro a hA
    refine seq_do hA rfl rfl rfl (does_move rfl) ?_
    intro a hA
    refine seq_skip hA rfl rfl rfl ?_
    intro a hA
    refine seq_skip hA rfl rfl rfl ?_
    intro a hA
    refine seq_do (v := .bool true) hA rfl rfl rfl (does_pick rfl rfl rfl rfl) ?_
    intro a hA
    refine seq_do hA rfl rfl rfl (does_move rfl) ?_
    intro a hA
    refine seq_skip hA rfl rfl rfl ?_
    intro a hA
    refine seq_skip hA rfl rfl rfl ?_
    intro a hA
    refine seq_do (v := .bool true) hA rfl rfl rfl (does_pick rfl rfl rfl rfl) ?_
    intro a hA
    refine seq_do hA rfl rfl rfl (does_move rfl) ?_
    intro a hA
    refine seq_skip hA rfl rfl rfl ?_
    intro a hA
    refine seq_skip hA rfl rfl rfl ?_
    intro a hA
    refine seq_do (v := .bool true) hA rfl rfl rfl (does_pick rfl rfl rfl rfl) ?_
    intro a hA
    refine seq_do hA rfl rfl rfl (does_move rfl) ?_
    intro a hA
    refine seq_skip hA rfl rfl rfl ?_
    intro a hA
    refine seq_skip hA rfl rfl rfl ?_
    intro a hA
    refine seq_do (v := .bool true) hA rfl rfl rfl (does_pick rfl rfl rfl rfl) ?_
    intro a hA
    refine seq_end ?_
    refine hK59 _ _ ?_
    refine wp_cond_true (hA.ev rfl) ?_
    refine wp_seq_k (fun K61 hK61 => ?_)
    refine wp_region_lit ?_
    refine seq_do hA rfl rfl rfl (does_assign rfl) ?_
    intro a hA
    refine seq_end ?_
    refine hK61 _ _ ?_
    refine wp_ret ?_
    refine hret _ _ ?_
    refine ends (v := .bool true) hA rfl (.cons (res_tmp rfl) .nil) rfl ?_
    exact ⟨rfl, hS.bel⟩
  · have hb60' := bne_eq_false_iff_eq.1 hb60
    refine seq_do (v := .bool false) hA rfl rfl rfl (does_bin rfl rfl (fun w => (bin_neq w).trans (by rw [hb60]))) ?_
    intro a hA
    refine seq_do hA rfl rfl rfl (does_move rfl) ?_
    intro a hA
    refine seq_do hA rfl rfl rfl (does_move rfl) ?_
    intro a hA
    rcases Bool.eq_false_or_eq_true ((z2.2 != 0)) with hb62 | hb62
    · have hb62' := bne_iff_ne.1 hb62
      refine seq_do (v := .bool true) hA rfl rfl rfl (does_bin rfl rfl (fun w => (bin_neq w).trans (by rw [hb62]))) ?_
      intro a hA
      refine seq_do (v := .bool true) hA rfl rfl rfl (does_pick rfl rfl rfl rfl) ?_
      intro a hA
      refine seq_do hA rfl rfl rfl (does_move rfl) ?_
      intro a hA
      refine seq_skip hA rfl rfl rfl ?_
      intro a hA
      refine seq_skip hA rfl rfl rfl ?_
      intro a hA
      refine seq_do (v := .bool true) hA rfl rfl rfl (does_pick rfl rfl rfl rfl) ?_
      intro a hA
      refine seq_do hA rfl rfl rfl (does_move rfl) ?_
      intro a hA
      refine seq_skip hA rfl rfl rfl ?_
      intro a hA
      refine seq_skip hA rfl rfl rfl ?_
      intro a hA
      refine seq_do (v := .bool true) hA rfl rfl rfl (does_pick rfl rfl rfl rfl) ?_
      intro a hA
      refine seq_do hA rfl rfl rfl (does_move rfl) ?_
      intro a hA
      refine seq_skip hA rfl rfl rfl ?_
      intro a hA
      refine seq_skip hA rfl rfl rfl ?_
      intro a hA
      refine seq_do (v := .bool true) hA rfl rfl rfl (does_pick rfl rfl rfl rfl) ?_
      intro a hA
      refine seq_end ?_
      refine hK59 _ _ ?_
      refine wp_cond_true (hA.ev rfl) ?_
      refine wp_seq_k (fun K63 hK63 => ?_)
      refine wp_region_lit ?_
      refine seq_do hA rfl rfl rfl (does_assign rfl) ?_
      intro a hA
      refine seq_end ?_
      refine hK63 _ _ ?_
      refine wp_ret ?_
      refine hret _ _ ?_
      refine ends (v := .bool true) hA rfl (.cons (res_tmp rfl) .nil) rfl ?_
      exact ⟨rfl, hS.bel⟩
    · have hb62' := bne_eq_false_iff_eq.1 hb62
      refine seq_do (v := .bool false) hA rfl rfl rfl (does_bin rfl rfl (fun w => (bin_neq w).trans (by rw [hb62]))) ?_
      intro a hA
      refine seq_do (v := .bool false) hA rfl rfl rfl (does_pick rfl rfl rfl rfl) ?_
      intro a hA
      refine seq_do hA rfl rfl rfl (does_move rfl) ?_
      intro a hA
      refine seq_do hA rfl rfl rfl (does_move rfl) ?_
      intro a hA
      rcases Bool.eq_false_or_eq_true ((z3.2 != 0)) with hb64 | hb64
      · have hb64' := bne_iff_ne.1 hb64
        refine seq_do (v := .bool true) hA rfl rfl rfl (does_bin rfl rfl (fun w => (bin_neq w).trans (by rw [hb64]))) ?_
        intro a hA
        refine seq_do (v := .bool true) hA rfl rfl rfl (does_pick rfl rfl rfl rfl) ?_
        intro a hA
        refine seq_do hA rfl rfl rfl (does_move rfl) ?_
        intro a hA
        refine seq_skip hA rfl rfl rfl ?_
        intro a hA
        refine seq_skip hA rfl rfl rfl ?_
        intro a hA
        refine seq_do (v := .bool true) hA rfl rfl rfl (does_pick rfl rfl rfl rfl) ?_
        intro a hA
        refine seq_do hA rfl rfl rfl (does_move rfl) ?_
        intro a hA
        refine seq_skip hA rfl rfl rfl ?_
        intro a hA
        refine seq_skip hA rfl rfl rfl ?_
        intro a hA
        refine seq_do (v := .bool true) hA rfl rfl rfl (does_pick rfl rfl rfl rfl) ?_
        intro a hA
        refine seq_end ?_
        refine hK59 _ _ ?_
        refine wp_cond_true (hA.ev rfl) ?_
        refine wp_seq_k (fun K65 hK65 => ?_)
        refine wp_region_lit ?_
        refine seq_do hA rfl rfl rfl (does_assign rfl) ?_
        intro a hA
        refine seq_end ?_
        refine hK65 _ _ ?_
        refine wp_ret ?_
        refine hret _ _ ?_
        refine ends (v := .bool true) hA rfl (.cons (res_tmp rfl) .nil) rfl ?_
        exact ⟨rfl, hS.bel⟩
      · have hb64' := bne_eq_false_iff_eq.1 hb64
        refine seq_do (v := .bool false) hA rfl rfl rfl (does_bin rfl rfl (fun w => (bin_neq w).trans (by rw [hb64]))) ?_
        intro a hA
        refine seq_do (v := .bool false) hA rfl rfl rfl (does_pick rfl rfl rfl rfl) ?_
        intro a hA
        refine seq_do hA rfl rfl rfl (does_move rfl) ?_
        intro a hA
        refine seq_do hA rfl rfl rfl (does_move rfl) ?_
        intro a hA
        rcases Bool.eq_false_or_eq_true ((z4.2 != 0)) with hb66 | hb66
        · have hb66' := bne_iff_ne.1 hb66
          refine seq_do (v := .bool true) hA rfl rfl rfl (does_bin rfl rfl (fun w => (bin_neq w).trans (by rw [hb66]))) ?_
          intro a hA
          refine seq_do (v := .bool true) hA rfl rfl rfl (does_pick rfl rfl rfl rfl) ?_
          intro a hA
          refine seq_do hA rfl rfl rfl (does_move rfl) ?_
          intro a hA
          refine seq_skip hA rfl rfl rfl ?_
          intro a hA
          refine seq_skip hA rfl rfl rfl ?_
          intro a hA
          refine seq_do (v := .bool true) hA rfl rfl rfl (does_pick rfl rfl rfl rfl) ?_
          intro a hA
          refine seq_end ?_
          refine hK59 _ _ ?_
          refine wp_cond_true (hA.ev rfl) ?_
          refine wp_seq_k (fun K67 hK67 => ?_)
          refine wp_region_lit ?_
          refine seq_do hA rfl rfl rfl (does_assign rfl) ?_
          intro a hA
          refine seq_end ?_
          refine hK67 _ _ ?_
          refine wp_ret ?_
          refine hret _ _ ?_
          refine ends (v := .bool true) hA rfl (.cons (res_tmp rfl) .nil) rfl ?_
          exact ⟨rfl, hS.bel⟩
        · have hb66' := bne_eq_false_iff_eq.1 hb66
          refine seq_do (v := .bool false) hA rfl rfl rfl (does_bin rfl rfl (fun w => (bin_neq w).trans (by rw [hb66]))) ?_
          intro a hA
          refine seq_do (v := .bool false) hA rfl rfl rfl (does_pick rfl rfl rfl rfl) ?_
          intro a hA
          refine seq_do hA rfl rfl rfl (does_move rfl) ?_
          intro a hA
          refine seq_do hA rfl rfl rfl (does_move rfl) ?_
          intro a hA
          rcases Bool.eq_false_or_eq_true ((z5.2 != 0)) with hb68 | hb68
          · have hb68' := bne_iff_ne.1 hb68
            refine seq_do (v := .bool true) hA rfl rfl rfl (does_bin rfl rfl (fun w => (bin_neq w).trans (by rw [hb68]))) ?_
            intro a hA
            refine seq_do (v := .bool true) hA rfl rfl rfl (does_pick rfl rfl rfl rfl) ?_
            intro a hA
            refine seq_end ?_
            refine hK59 _ _ ?_
            refine wp_cond_true (hA.ev rfl) ?_
            refine wp_seq_k (fun K69 hK69 => ?_)
            refine wp_region_lit ?_
            refine seq_do hA rfl rfl rfl (does_assign rfl) ?_
            intro a hA
            refine seq_end ?_
            refine hK69 _ _ ?_
            refine wp_ret ?_
            refine hret _ _ ?_
            refine ends (v := .bool true) hA rfl (.cons (res_tmp rfl) .nil) rfl ?_
            exact ⟨rfl, hS.bel⟩
          · have hb68' := bne_eq_false_iff_eq.1 hb68
            refine seq_do (v := .bool false) hA rfl rfl rfl (does_bin rfl rfl (fun w => (bin_neq w).trans (by rw [hb68]))) ?_
            intro a hA
            refine seq_do (v := .bool false) hA rfl rfl rfl (does_pick rfl rfl rfl rfl) ?_
            intro a hA
            refine seq_end ?_
            refine hK59 _ _ ?_
            refine wp_cond_false (hA.ev rfl) ?_
            refine wp_skip ?_
            refine hK58 _ _ ?_
            refine wp_seq_k (fun K70 hK70 => ?_)
            refine wp_region_lit ?_
            refine seq_do (v := .agg #[.bool z1.1.b1, .slice p19_1 z1.1.t1.length p19_c1, .slice p19_2 z1.1.q1.length p19_c2, .bool z1.1.b2, .slice p19_3 z1.1.t2.length p19_c3, .slice p19_4 z1.1.q2.length p19_c4]) hA rfl rfl rfl (does_loadS hS ExN_isS_26 rfl 4 rfl (cs := [.bool z1.1.b1, .slice p19_1 z1.1.t1.length p19_c1, .slice p19_2 z1.1.q1.length p19_c2, .bool z1.1.b2, .slice p19_3 z1.1.t2.length p19_c3, .slice p19_4 z1.1.q2.length p19_c4]) rfl rfl) ?_
            intro a hA
            refine seq_do (v := .agg #[.bool r.b1, .slice y1 r.t1.length yc1, .slice y2 r.q1.length yc2, .bool r.b2, .slice y3 r.t2.length yc3, .slice y4 r.q2.length yc4]) hA rfl rfl rfl (does_loadS hS ExN_isS_26 rfl 5 rfl (cs := [.bool r.b1, .slice y1 r.t1.length yc1, .slice y2 r.q1.length yc2, .bool r.b2, .slice y3 r.t2.length yc3, .slice y4 r.q2.length yc4]) rfl rfl) ?_
            intro a hA
            refine seq_call hA rfl rfl rfl (enters_func  rfl rfl (fun w => by kernel_rfl)) (subQ_as (show Nm _ z1.1 p19_1 p19_c1 p19_2 p19_c2 p19_3 p19_c3 p19_4 p19_c4 from ⟨⟨(hS.rd 19 rfl), hn20.s1.nil, hn20.s1.cap⟩, ⟨(hS.rd 18 rfl), hn20.s2.nil, hn20.s2.cap⟩, ⟨(hS.rd 17 rfl), hn20.s3.nil, hn20.s3.cap⟩, ⟨(hS.rd 16 rfl), hn20.s4.nil, hn20.s4.cap⟩⟩) l1 (show Nm _ r y1 yc1 y2 yc2 y3 yc3 y4 yc4 from ⟨⟨(hS.rd 23 rfl), hc.s1.nil, hc.s1.cap⟩, ⟨(hS.rd 22 rfl), hc.s2.nil, hc.s2.cap⟩, ⟨(hS.rd 21 rfl), hc.s3.nil, hc.s3.cap⟩, ⟨(hS.rd 20 rfl), hc.s4.nil, hc.s4.cap⟩⟩) ho e6) ?_
            rintro _ w74 ⟨p71_1, p71_c1, p71_2, p71_c2, p71_3, p71_c3, p71_4, p71_c4, rfl, hn72, hb73⟩
            replace hS := hS.call hb73
            replace hS := hS.addR hn72.s1.rd
            replace hS := hS.addR hn72.s2.rd
            replace hS := hS.addR hn72.s3.rd
            replace hS := hS.addR hn72.s4.rd
            refine ⟨_, rfl, ?_⟩
            intro a hA
            refine seq_do hA rfl rfl rfl (does_move rfl) ?_
            intro a hA
            refine seq_do (v := .agg #[.bool z6.1.b1, .slice p71_1 z6.1.t1.length p71_c1, .slice p71_2 z6.1.q1.length p71_c2, .bool z6.1.b2, .slice p71_3 z6.1.t2.length p71_c3, .slice p71_4 z6.1.q2.length p71_c4]) hA rfl rfl rfl (does_extract (vs := [.agg #[.bool z6.1.b1, .slice p71_1 z6.1.t1.length p71_c1, .slice p71_2 z6.1.q1.length p71_c2, .bool z6.1.b2, .slice p71_3 z6.1.t2.length p71_c3, .slice p71_4 z6.1.q2.length p71_c4], .int .i64 z6.2]) rfl rfl) ?_
            intro a hA
            refine seq_do (v := .int .i64 z6.2) hA rfl rfl rfl (does_extract (vs := [.agg #[.bool z6.1.b1, .slice p71_1 z6.1.t1.length p71_c1, .slice p71_2 z6.1.q1.length p71_c2, .bool z6.1.b2, .slice p71_3 z6.1.t2.length p71_c3, .slice p71_4 z6.1.q2.length p71_c4], .int .i64 z6.2]) rfl rfl) ?_
            intro a hA
            refine seq_new (vs := [.bool false, .slice none 0 0, .slice none 0 0, .bool false, .slice none 0 0, .slice none 0 0]) (t := 26) hA hS rfl rfl rfl (fun g => .pointer (some ⟨g, 0, none⟩)) (does_alloc (z := .agg #[.bool false, .slice none 0 0, .slice none 0 0, .bool false, .slice none 0 0, .slice none 0 0]) (by kernel_rfl) rfl) rfl ?_
            intro g75 w76 hS a hA
            refine seq_store (us := [.bool z6.1.b1, .slice p71_1 z6.1.t1.length p71_c1, .slice p71_2 z6.1.q1.length p71_c2, .bool z6.1.b2, .slice p71_3 z6.1.t2.length p71_c3, .slice p71_4 z6.1.q2.length p71_c4]) hA hS rfl rfl (sets_store (cs := [.bool z6.1.b1, .slice p71_1 z6.1.t1.length p71_c1, .slice p71_2 z6.1.q1.length p71_c2, .bool z6.1.b2, .slice p71_3 z6.1.t2.length p71_c3, .slice p71_4 z6.1.q2.length p71_c4]) rfl rfl rfl (by kernel_rfl) hS 0 rfl rfl rfl) 0 rfl rfl rfl rfl ?_
            intro w77 hS
            refine seq_do hA rfl rfl rfl (does_assign rfl) ?_
            intro a hA
            refine seq_end ?_
            refine hK70 _ _ ?_
            refine wp_seq_k (fun K78 hK78 => ?_)
            refine wp_seq_k (fun K79 hK79 => ?_)
            refine wp_region_lit ?_
            refine seq_do (v := .agg #[.bool z2.1.b1, .slice p27_1 z2.1.t1.length p27_c1, .slice p27_2 z2.1.q1.length p27_c2, .bool z2.1.b2, .slice p27_3 z2.1.t2.length p27_c3, .slice p27_4 z2.1.q2.length p27_c4]) hA rfl rfl rfl (does_loadS hS ExN_isS_26 rfl 4 rfl (cs := [.bool z2.1.b1, .slice p27_1 z2.1.t1.length p27_c1, .slice p27_2 z2.1.q1.length p27_c2, .bool z2.1.b2, .slice p27_3 z2.1.t2.length p27_c3, .slice p27_4 z2.1.q2.length p27_c4]) rfl rfl) ?_
            intro a hA
            refine seq_do (v := .agg #[.bool z5.1.b1, .slice p51_1 z5.1.t1.length p51_c1, .slice p51_2 z5.1.q1.length p51_c2, .bool z5.1.b2, .slice p51_3 z5.1.t2.length p51_c3, .slice p51_4 z5.1.q2.length p51_c4]) hA rfl rfl rfl (does_loadS hS ExN_isS_26 rfl 1 rfl (cs := [.bool z5.1.b1, .slice p51_1 z5.1.t1.length p51_c1, .slice p51_2 z5.1.q1.length p51_c2, .bool z5.1.b2, .slice p51_3 z5.1.t2.length p51_c3, .slice p51_4 z5.1.q2.length p51_c4]) rfl rfl) ?_
            intro a hA
            refine seq_call hA rfl rfl rfl (enters_func  rfl rfl (fun w => by kernel_rfl)) (sameQ_any (show Nm _ z2.1 p27_1 p27_c1 p27_2 p27_c2 p27_3 p27_c3 p27_4 p27_c4 from ⟨⟨(hS.rd 19 rfl), hn28.s1.nil, hn28.s1.cap⟩, ⟨(hS.rd 18 rfl), hn28.s2.nil, hn28.s2.cap⟩, ⟨(hS.rd 17 rfl), hn28.s3.nil, hn28.s3.cap⟩, ⟨(hS.rd 16 rfl), hn28.s4.nil, hn28.s4.cap⟩⟩) l2 (show Nm _ z5.1 p51_1 p51_c1 p51_2 p51_c2 p51_3 p51_c3 p51_4 p51_c4 from ⟨⟨(hS.rd 7 rfl), hn52.s1.nil, hn52.s1.cap⟩, ⟨(hS.rd 6 rfl), hn52.s2.nil, hn52.s2.cap⟩, ⟨(hS.rd 5 rfl), hn52.s3.nil, hn52.s3.cap⟩, ⟨(hS.rd 4 rfl), hn52.s4.nil, hn52.s4.cap⟩⟩) l5 ((hF (bne0 hb60) (bne0 hb62) (bne0 hb64) (bne0 hb66) (bne0 hb68)).1)) ?_
            rintro _ w81 ⟨rfl, hb80⟩
            replace hS := hS.call hb80
            refine ⟨_, rfl, ?_⟩
            intro a hA
            refine seq_do (v := .bool false) hA rfl rfl rfl (does_un rfl un_not) ?_
            intro a hA
            refine seq_do hA rfl rfl rfl (does_move rfl) ?_
            intro a hA
            refine seq_do hA rfl rfl rfl (does_move rfl) ?_
            intro a hA
            refine seq_do (v := .bool false) hA rfl rfl rfl (does_bin rfl rfl (fun w => (bin_neq w).trans (by rw [show ((z6.2 != 0)) = false from (by rw [(hF (bne0 hb60) (bne0 hb62) (bne0 hb64) (bne0 hb66) (bne0 hb68)).2.1]; rfl)]))) ?_
            intro a hA
            refine seq_do (v := .bool false) hA rfl rfl rfl (does_pick rfl rfl rfl rfl) ?_
            intro a hA
            refine seq_do hA rfl rfl rfl (does_move rfl) ?_
            intro a hA
            refine seq_do (v := .agg #[.bool z6.1.b1, .slice p71_1 z6.1.t1.length p71_c1, .slice p71_2 z6.1.q1.length p71_c2, .bool z6.1.b2, .slice p71_3 z6.1.t2.length p71_c3, .slice p71_4 z6.1.q2.length p71_c4]) hA rfl rfl rfl (does_loadS hS ExN_isS_26 rfl 0 rfl (cs := [.bool z6.1.b1, .slice p71_1 z6.1.t1.length p71_c1, .slice p71_2 z6.1.q1.length p71_c2, .bool z6.1.b2, .slice p71_3 z6.1.t2.length p71_c3, .slice p71_4 z6.1.q2.length p71_c4]) rfl rfl) ?_
            intro a hA
            refine seq_do (v := .agg #[.bool q.b1, .slice u1 q.t1.length uc1, .slice u2 q.q1.length uc2, .bool q.b2, .slice u3 q.t2.length uc3, .slice u4 q.q2.length uc4]) hA rfl rfl rfl (does_loadS hS ExN_isS_26 rfl 7 rfl (cs := [.bool q.b1, .slice u1 q.t1.length uc1, .slice u2 q.q1.length uc2, .bool q.b2, .slice u3 q.t2.length uc3, .slice u4 q.q2.length uc4]) rfl rfl) ?_
            intro a hA
            refine seq_call hA rfl rfl rfl (enters_func  rfl rfl (fun w => by kernel_rfl)) (sameQ_any (show Nm _ z6.1 p71_1 p71_c1 p71_2 p71_c2 p71_3 p71_c3 p71_4 p71_c4 from ⟨⟨(hS.rd 3 rfl), hn72.s1.nil, hn72.s1.cap⟩, ⟨(hS.rd 2 rfl), hn72.s2.nil, hn72.s2.cap⟩, ⟨(hS.rd 1 rfl), hn72.s3.nil, hn72.s3.cap⟩, ⟨(hS.rd 0 rfl), hn72.s4.nil, hn72.s4.cap⟩⟩) l6 (show Nm _ q u1 uc1 u2 uc2 u3 uc3 u4 uc4 from ⟨⟨(hS.rd 31 rfl), hb.s1.nil, hb.s1.cap⟩, ⟨(hS.rd 30 rfl), hb.s2.nil, hb.s2.cap⟩, ⟨(hS.rd 29 rfl), hb.s3.nil, hb.s3.cap⟩, ⟨(hS.rd 28 rfl), hb.s4.nil, hb.s4.cap⟩⟩) hm ((hF (bne0 hb60) (bne0 hb62) (bne0 hb64) (bne0 hb66) (bne0 hb68)).2.2.1)) ?_
            rintro _ w83 ⟨rfl, hb82⟩
            replace hS := hS.call hb82
            refine ⟨_, rfl, ?_⟩
            intro a hA
            refine seq_do (v := .bool false) hA rfl rfl rfl (does_un rfl un_not) ?_
            intro a hA
            refine seq_do (v := .bool false) hA rfl rfl rfl (does_pick rfl rfl rfl rfl) ?_
            intro a hA
            refine seq_end ?_
            refine hK79 _ _ ?_
            refine wp_cond_false (hA.ev rfl) ?_
            refine wp_skip ?_
            refine hK78 _ _ ?_
            refine wp_seq_k (fun K84 hK84 => ?_)
            refine wp_region_lit ?_
            refine seq_do (v := .agg #[.bool z3.1.b1, .slice p35_1 z3.1.t1.length p35_c1, .slice p35_2 z3.1.q1.length p35_c2, .bool z3.1.b2, .slice p35_3 z3.1.t2.length p35_c3, .slice p35_4 z3.1.q2.length p35_c4]) hA rfl rfl rfl (does_loadS hS ExN_isS_26 rfl 3 rfl (cs := [.bool z3.1.b1, .slice p35_1 z3.1.t1.length p35_c1, .slice p35_2 z3.1.q1.length p35_c2, .bool z3.1.b2, .slice p35_3 z3.1.t2.length p35_c3, .slice p35_4 z3.1.q2.length p35_c4]) rfl rfl) ?_
            intro a hA
            refine seq_do (v := .agg #[.bool p.b1, .slice a1 p.t1.length ac1, .slice a2 p.q1.length ac2, .bool p.b2, .slice a3 p.t2.length ac3, .slice a4 p.q2.length ac4]) hA rfl rfl rfl (does_loadS hS ExN_isS_26 rfl 8 rfl (cs := [.bool p.b1, .slice a1 p.t1.length ac1, .slice a2 p.q1.length ac2, .bool p.b2, .slice a3 p.t2.length ac3, .slice a4 p.q2.length ac4]) rfl rfl) ?_
            intro a hA
            refine seq_call hA rfl rfl rfl (enters_func  rfl rfl (fun w => by kernel_rfl)) (divQ_as (show Nm _ z3.1 p35_1 p35_c1 p35_2 p35_c2 p35_3 p35_c3 p35_4 p35_c4 from ⟨⟨(hS.rd 15 rfl), hn36.s1.nil, hn36.s1.cap⟩, ⟨(hS.rd 14 rfl), hn36.s2.nil, hn36.s2.cap⟩, ⟨(hS.rd 13 rfl), hn36.s3.nil, hn36.s3.cap⟩, ⟨(hS.rd 12 rfl), hn36.s4.nil, hn36.s4.cap⟩⟩) l3 (show Nm _ p a1 ac1 a2 ac2 a3 ac3 a4 ac4 from ⟨⟨(hS.rd 35 rfl), ha.s1.nil, ha.s1.cap⟩, ⟨(hS.rd 34 rfl), ha.s2.nil, ha.s2.cap⟩, ⟨(hS.rd 33 rfl), ha.s3.nil, ha.s3.cap⟩, ⟨(hS.rd 32 rfl), ha.s4.nil, ha.s4.cap⟩⟩) hl e7) ?_
            rintro _ w88 ⟨p85_1, p85_c1, p85_2, p85_c2, p85_3, p85_c3, p85_4, p85_c4, rfl, hn86, hb87⟩
            replace hS := hS.call hb87
            replace hS := hS.addR hn86.s1.rd
            replace hS := hS.addR hn86.s2.rd
            replace hS := hS.addR hn86.s3.rd
            replace hS := hS.addR hn86.s4.rd
            refine ⟨_, rfl, ?_⟩
            intro a hA
            refine seq_do hA rfl rfl rfl (does_move rfl) ?_
            intro a hA
            refine seq_do (v := .agg #[.bool z7.1.b1, .slice p85_1 z7.1.t1.length p85_c1, .slice p85_2 z7.1.q1.length p85_c2, .bool z7.1.b2, .slice p85_3 z7.1.t2.length p85_c3, .slice p85_4 z7.1.q2.length p85_c4]) hA rfl rfl rfl (does_extract (vs := [.agg #[.bool z7.1.b1, .slice p85_1 z7.1.t1.length p85_c1, .slice p85_2 z7.1.q1.length p85_c2, .bool z7.1.b2, .slice p85_3 z7.1.t2.length p85_c3, .slice p85_4 z7.1.q2.length p85_c4], .int .i64 z7.2]) rfl rfl) ?_
            intro a hA
            refine seq_do (v := .int .i64 z7.2) hA rfl rfl rfl (does_extract (vs := [.agg #[.bool z7.1.b1, .slice p85_1 z7.1.t1.length p85_c1, .slice p85_2 z7.1.q1.length p85_c2, .bool z7.1.b2, .slice p85_3 z7.1.t2.length p85_c3, .slice p85_4 z7.1.q2.length p85_c4], .int .i64 z7.2]) rfl rfl) ?_
            intro a hA
            refine seq_new (vs := [.bool false, .slice none 0 0, .slice none 0 0, .bool false, .slice none 0 0, .slice none 0 0]) (t := 26) hA hS rfl rfl rfl (fun g => .pointer (some ⟨g, 0, none⟩)) (does_alloc (z := .agg #[.bool false, .slice none 0 0, .slice none 0 0, .bool false, .slice none 0 0, .slice none 0 0]) (by kernel_rfl) rfl) rfl ?_
            intro g89 w90 hS a hA
            refine seq_store (us := [.bool z7.1.b1, .slice p85_1 z7.1.t1.length p85_c1, .slice p85_2 z7.1.q1.length p85_c2, .bool z7.1.b2, .slice p85_3 z7.1.t2.length p85_c3, .slice p85_4 z7.1.q2.length p85_c4]) hA hS rfl rfl (sets_store (cs := [.bool z7.1.b1, .slice p85_1 z7.1.t1.length p85_c1, .slice p85_2 z7.1.q1.length p85_c2, .bool z7.1.b2, .slice p85_3 z7.1.t2.length p85_c3, .slice p85_4 z7.1.q2.length p85_c4]) rfl rfl rfl (by kernel_rfl) hS 0 rfl rfl rfl) 0 rfl rfl rfl rfl ?_
            intro w91 hS
            refine seq_do hA rfl rfl rfl (does_assign rfl) ?_
            intro a hA
            refine seq_end ?_
            refine hK84 _ _ ?_
            refine wp_seq_k (fun K92 hK92 => ?_)
            refine wp_region_lit ?_
            refine seq_call hA rfl rfl rfl (enters_func  rfl rfl (fun w => by kernel_rfl)) ((show Calls Try.prog 15 #[.int .i64 (0)] _ (AnsV _ (Q6.whole false 0)) from intP_any (k := 0) (by decide))) ?_
            rintro _ w96 ⟨p93_1, p93_c1, p93_2, p93_c2, p93_3, p93_c3, p93_4, p93_c4, rfl, hn94, hb95⟩
            replace hS := hS.call hb95
            replace hS := hS.addR hn94.s1.rd
            replace hS := hS.addR hn94.s2.rd
            replace hS := hS.addR hn94.s3.rd
            replace hS := hS.addR hn94.s4.rd
            refine ⟨_, rfl, ?_⟩
            intro a hA
            refine seq_new (vs := [.bool false, .slice none 0 0, .slice none 0 0, .bool false, .slice none 0 0, .slice none 0 0]) (t := 26) hA hS rfl rfl rfl (fun g => .pointer (some ⟨g, 0, none⟩)) (does_alloc (z := .agg #[.bool false, .slice none 0 0, .slice none 0 0, .bool false, .slice none 0 0, .slice none 0 0]) (by kernel_rfl) rfl) rfl ?_
            intro g97 w98 hS a hA
            refine seq_store (us := [.bool false, .slice p93_1 ((words 0).length) p93_c1, .slice p93_2 1 p93_c2, .bool false, .slice p93_3 0 p93_c3, .slice p93_4 1 p93_c4]) hA hS rfl rfl (sets_store (cs := [.bool false, .slice p93_1 ((words 0).length) p93_c1, .slice p93_2 1 p93_c2, .bool false, .slice p93_3 0 p93_c3, .slice p93_4 1 p93_c4]) rfl rfl rfl (by kernel_rfl) hS 0 rfl rfl rfl) 0 rfl rfl rfl rfl ?_
            intro w99 hS
            refine seq_end ?_
            refine hK92 _ _ ?_
            refine wp_seq_k (fun K100 hK100 => ?_)
            refine wp_region_lit ?_
            refine seq_do (v := .agg #[.bool p.b1, .slice a1 p.t1.length ac1, .slice a2 p.q1.length ac2, .bool p.b2, .slice a3 p.t2.length ac3, .slice a4 p.q2.length ac4]) hA rfl rfl rfl (does_loadS hS ExN_isS_26 rfl 10 rfl (cs := [.bool p.b1, .slice a1 p.t1.length ac1, .slice a2 p.q1.length ac2, .bool p.b2, .slice a3 p.t2.length ac3, .slice a4 p.q2.length ac4]) rfl rfl) ?_
            intro a hA
            refine seq_do (v := .agg #[.bool false, .slice p93_1 ((words 0).length) p93_c1, .slice p93_2 1 p93_c2, .bool false, .slice p93_3 0 p93_c3, .slice p93_4 1 p93_c4]) hA rfl rfl rfl (does_loadS hS ExN_isS_26 rfl 0 rfl (cs := [.bool false, .slice p93_1 ((words 0).length) p93_c1, .slice p93_2 1 p93_c2, .bool false, .slice p93_3 0 p93_c3, .slice p93_4 1 p93_c4]) rfl rfl) ?_
            intro a hA
            rcases Bool.eq_false_or_eq_true (sameQ p (Q6.whole false 0)) with hb101 | hb101
            · refine seq_call hA rfl rfl rfl (enters_func  rfl rfl (fun w => by kernel_rfl)) (sameQ_any (show Nm _ p a1 ac1 a2 ac2 a3 ac3 a4 ac4 from ⟨⟨(hS.rd 43 rfl), ha.s1.nil, ha.s1.cap⟩, ⟨(hS.rd 42 rfl), ha.s2.nil, ha.s2.cap⟩, ⟨(hS.rd 41 rfl), ha.s3.nil, ha.s3.cap⟩, ⟨(hS.rd 40 rfl), ha.s4.nil, ha.s4.cap⟩⟩) hl (show Nm _ (Q6.whole false 0) p93_1 p93_c1 p93_2 p93_c2 p93_3 p93_c3 p93_4 p93_c4 from ⟨⟨(hS.rd 3 rfl), hn94.s1.nil, hn94.s1.cap⟩, ⟨(hS.rd 2 rfl), hn94.s2.nil, hn94.s2.cap⟩, ⟨(hS.rd 1 rfl), hn94.s3.nil, hn94.s3.cap⟩, ⟨(hS.rd 0 rfl), hn94.s4.nil, hn94.s4.cap⟩⟩) (lenQ_whole zero_len) hb101) ?_
              rintro _ w103 ⟨rfl, hb102⟩
              replace hS := hS.call hb102
              refine ⟨_, rfl, ?_⟩
              intro a hA
              refine seq_do hA rfl rfl rfl (does_move rfl) ?_
              intro a hA
              refine seq_do hA rfl rfl rfl (does_move rfl) ?_
              intro a hA
              refine seq_do (v := .bool true) hA rfl rfl rfl (does_bin rfl rfl (fun w => (bin_eql w).trans (by rw [show ((z7.2 == 3)) = true from (by rw [(hF (bne0 hb60) (bne0 hb62) (bne0 hb64) (bne0 hb66) (bne0 hb68)).2.2.2.1 hb101]; rfl)]))) ?_
              intro a hA
              refine seq_do (v := .bool true) hA rfl rfl rfl (does_pick rfl rfl rfl rfl) ?_
              intro a hA
              refine seq_do hA rfl rfl rfl (does_move rfl) ?_
              intro a hA
              refine seq_skip hA rfl rfl rfl ?_
              intro a hA
              refine seq_skip hA rfl rfl rfl ?_
              intro a hA
              refine seq_skip hA rfl rfl rfl ?_
              intro a hA
              refine seq_skip hA rfl rfl rfl ?_
              intro a hA
              refine seq_skip hA rfl rfl rfl ?_
              intro a hA
              refine seq_skipU hA rfl rfl rfl ?_
              intro a hA
              refine seq_skipU hA rfl rfl rfl ?_
              intro a hA
              refine seq_skipU hA rfl rfl rfl ?_
              intro a hA
              refine seq_skipU hA rfl rfl rfl ?_
              intro a hA
              refine seq_skipU hA rfl rfl rfl ?_
              intro a hA
              refine seq_skipU hA rfl rfl rfl ?_
              intro a hA
              refine seq_skipU hA rfl rfl rfl ?_
              intro a hA
              refine seq_skipU hA rfl rfl rfl ?_
              intro a hA
              refine seq_skipU hA rfl rfl rfl ?_
              intro a hA
              refine seq_skipU hA rfl rfl rfl ?_
              intro a hA
              refine seq_skipU hA rfl rfl rfl ?_
              intro a hA
              refine seq_skip hA rfl rfl rfl ?_
              intro a hA
              refine seq_do (v := .bool true) hA rfl rfl rfl (does_pick rfl rfl rfl rfl) ?_
              intro a hA
              refine seq_do hA rfl rfl rfl (does_assign rfl) ?_
              intro a hA
              refine seq_end ?_
              refine hK100 _ _ ?_
              refine wp_ret ?_
              refine hret _ _ ?_
              refine ends (v := .bool true) hA rfl (.cons (res_tmp rfl) .nil) rfl ?_
              exact ⟨rfl, hS.bel⟩
            · refine seq_call hA rfl rfl rfl (enters_func  rfl rfl (fun w => by kernel_rfl)) (sameQ_any (show Nm _ p a1 ac1 a2 ac2 a3 ac3 a4 ac4 from ⟨⟨(hS.rd 43 rfl), ha.s1.nil, ha.s1.cap⟩, ⟨(hS.rd 42 rfl), ha.s2.nil, ha.s2.cap⟩, ⟨(hS.rd 41 rfl), ha.s3.nil, ha.s3.cap⟩, ⟨(hS.rd 40 rfl), ha.s4.nil, ha.s4.cap⟩⟩) hl (show Nm _ (Q6.whole false 0) p93_1 p93_c1 p93_2 p93_c2 p93_3 p93_c3 p93_4 p93_c4 from ⟨⟨(hS.rd 3 rfl), hn94.s1.nil, hn94.s1.cap⟩, ⟨(hS.rd 2 rfl), hn94.s2.nil, hn94.s2.cap⟩, ⟨(hS.rd 1 rfl), hn94.s3.nil, hn94.s3.cap⟩, ⟨(hS.rd 0 rfl), hn94.s4.nil, hn94.s4.cap⟩⟩) (lenQ_whole zero_len) hb101) ?_
              rintro _ w105 ⟨rfl, hb104⟩
              replace hS := hS.call hb104
              refine ⟨_, rfl, ?_⟩
              intro a hA
              refine seq_do hA rfl rfl rfl (does_move rfl) ?_
              intro a hA
              refine seq_skip hA rfl rfl rfl ?_
              intro a hA
              refine seq_skip hA rfl rfl rfl ?_
              intro a hA
              refine seq_do (v := .bool false) hA rfl rfl rfl (does_pick rfl rfl rfl rfl) ?_
              intro a hA
              refine seq_do hA rfl rfl rfl (does_move rfl) ?_
              intro a hA
              refine seq_do (v := .agg #[.bool p.b1, .slice a1 p.t1.length ac1, .slice a2 p.q1.length ac2, .bool p.b2, .slice a3 p.t2.length ac3, .slice a4 p.q2.length ac4]) hA rfl rfl rfl (does_loadS hS ExN_isS_26 rfl 10 rfl (cs := [.bool p.b1, .slice a1 p.t1.length ac1, .slice a2 p.q1.length ac2, .bool p.b2, .slice a3 p.t2.length ac3, .slice a4 p.q2.length ac4]) rfl rfl) ?_
              intro a hA
              refine seq_do (v := .agg #[.bool false, .slice p93_1 ((words 0).length) p93_c1, .slice p93_2 1 p93_c2, .bool false, .slice p93_3 0 p93_c3, .slice p93_4 1 p93_c4]) hA rfl rfl rfl (does_loadS hS ExN_isS_26 rfl 0 rfl (cs := [.bool false, .slice p93_1 ((words 0).length) p93_c1, .slice p93_2 1 p93_c2, .bool false, .slice p93_3 0 p93_c3, .slice p93_4 1 p93_c4]) rfl rfl) ?_
              intro a hA
              refine seq_call hA rfl rfl rfl (enters_func  rfl rfl (fun w => by kernel_rfl)) (sameQ_any (show Nm _ p a1 ac1 a2 ac2 a3 ac3 a4 ac4 from ⟨⟨(hS.rd 43 rfl), ha.s1.nil, ha.s1.cap⟩, ⟨(hS.rd 42 rfl), ha.s2.nil, ha.s2.cap⟩, ⟨(hS.rd 41 rfl), ha.s3.nil, ha.s3.cap⟩, ⟨(hS.rd 40 rfl), ha.s4.nil, ha.s4.cap⟩⟩) hl (show Nm _ (Q6.whole false 0) p93_1 p93_c1 p93_2 p93_c2 p93_3 p93_c3 p93_4 p93_c4 from ⟨⟨(hS.rd 3 rfl), hn94.s1.nil, hn94.s1.cap⟩, ⟨(hS.rd 2 rfl), hn94.s2.nil, hn94.s2.cap⟩, ⟨(hS.rd 1 rfl), hn94.s3.nil, hn94.s3.cap⟩, ⟨(hS.rd 0 rfl), hn94.s4.nil, hn94.s4.cap⟩⟩) (lenQ_whole zero_len) hb101) ?_
              rintro _ w107 ⟨rfl, hb106⟩
              replace hS := hS.call hb106
              refine ⟨_, rfl, ?_⟩
              intro a hA
              refine seq_do (v := .bool true) hA rfl rfl rfl (does_un rfl un_not) ?_
              intro a hA
              refine seq_do hA rfl rfl rfl (does_move rfl) ?_
              intro a hA
              refine seq_do hA rfl rfl rfl (does_move rfl) ?_
              intro a hA
              refine seq_do (v := .bool false) hA rfl rfl rfl (does_bin rfl rfl (fun w => (bin_eql w).trans (by rw [show ((z7.2 == 4)) = false from (by rw [((hF (bne0 hb60) (bne0 hb62) (bne0 hb64) (bne0 hb66) (bne0 hb68)).2.2.2.2 hb101).1]; rfl)]))) ?_
              intro a hA
              refine seq_do hA rfl rfl rfl (does_move rfl) ?_
              intro a hA
              refine seq_do hA rfl rfl rfl (does_move rfl) ?_
              intro a hA
              refine seq_do (v := .bool true) hA rfl rfl rfl (does_bin rfl rfl (fun w => (bin_eql w).trans (by rw [show ((z7.2 == 0)) = true from (by rw [((hF (bne0 hb60) (bne0 hb62) (bne0 hb64) (bne0 hb66) (bne0 hb68)).2.2.2.2 hb101).1]; rfl)]))) ?_
              intro a hA
              refine seq_do hA rfl rfl rfl (does_move rfl) ?_
              intro a hA
              refine seq_do (v := .agg #[.bool z7.1.b1, .slice p85_1 z7.1.t1.length p85_c1, .slice p85_2 z7.1.q1.length p85_c2, .bool z7.1.b2, .slice p85_3 z7.1.t2.length p85_c3, .slice p85_4 z7.1.q2.length p85_c4]) hA rfl rfl rfl (does_loadS hS ExN_isS_26 rfl 1 rfl (cs := [.bool z7.1.b1, .slice p85_1 z7.1.t1.length p85_c1, .slice p85_2 z7.1.q1.length p85_c2, .bool z7.1.b2, .slice p85_3 z7.1.t2.length p85_c3, .slice p85_4 z7.1.q2.length p85_c4]) rfl rfl) ?_
              intro a hA
              refine seq_do (v := .agg #[.bool q.b1, .slice u1 q.t1.length uc1, .slice u2 q.q1.length uc2, .bool q.b2, .slice u3 q.t2.length uc3, .slice u4 q.q2.length uc4]) hA rfl rfl rfl (does_loadS hS ExN_isS_26 rfl 9 rfl (cs := [.bool q.b1, .slice u1 q.t1.length uc1, .slice u2 q.q1.length uc2, .bool q.b2, .slice u3 q.t2.length uc3, .slice u4 q.q2.length uc4]) rfl rfl) ?_
              intro a hA
              refine seq_call hA rfl rfl rfl (enters_func  rfl rfl (fun w => by kernel_rfl)) (sameQ_any (show Nm _ z7.1 p85_1 p85_c1 p85_2 p85_c2 p85_3 p85_c3 p85_4 p85_c4 from ⟨⟨(hS.rd 7 rfl), hn86.s1.nil, hn86.s1.cap⟩, ⟨(hS.rd 6 rfl), hn86.s2.nil, hn86.s2.cap⟩, ⟨(hS.rd 5 rfl), hn86.s3.nil, hn86.s3.cap⟩, ⟨(hS.rd 4 rfl), hn86.s4.nil, hn86.s4.cap⟩⟩) l7 (show Nm _ q u1 uc1 u2 uc2 u3 uc3 u4 uc4 from ⟨⟨(hS.rd 39 rfl), hb.s1.nil, hb.s1.cap⟩, ⟨(hS.rd 38 rfl), hb.s2.nil, hb.s2.cap⟩, ⟨(hS.rd 37 rfl), hb.s3.nil, hb.s3.cap⟩, ⟨(hS.rd 36 rfl), hb.s4.nil, hb.s4.cap⟩⟩) hm (((hF (bne0 hb60) (bne0 hb62) (bne0 hb64) (bne0 hb66) (bne0 hb68)).2.2.2.2 hb101).2)) ?_
              rintro _ w109 ⟨rfl, hb108⟩
              replace hS := hS.call hb108
              refine ⟨_, rfl, ?_⟩
              intro a hA
              refine seq_do (v := .bool true) hA rfl rfl rfl (does_pick rfl rfl rfl rfl) ?_
              intro a hA
              refine seq_do (v := .bool true) hA rfl rfl rfl (does_pick rfl rfl rfl rfl) ?_
              intro a hA
              refine seq_do (v := .bool true) hA rfl rfl rfl (does_pick rfl rfl rfl rfl) ?_
              intro a hA
              refine seq_do (v := .bool true) hA rfl rfl rfl (does_pick rfl rfl rfl rfl) ?_
              intro a hA
              refine seq_do hA rfl rfl rfl (does_assign rfl) ?_
              intro a hA
              refine seq_end ?_
              refine hK100 _ _ ?_
              refine wp_ret ?_
              refine hret _ _ ?_
              refine ends (v := .bool true) hA rfl (.cons (res_tmp rfl) .nil) rfl ?_
              exact ⟨rfl, hS.bel⟩
theorem fieldE0_any {w : World} {p q r : Q6} {a1 a2 a3 a4 : Option Addr} {ac1 ac2 ac3 ac4 : Nat} (ha : Nm w p a1 ac1 a2 ac2 a3 ac3 a4 ac4) {u1 u2 u3 u4 : Option Addr} {uc1 uc2 uc3 uc4 : Nat} (hb : Nm w q u1 uc1 u2 uc2 u3 uc3 u4 uc4) {y1 y2 y3 y4 : Option Addr} {yc1 yc2 yc3 yc4 : Nat} (hc : Nm w r y1 yc1 y2 yc2 y3 yc3 y4 yc4) (hl : LenQ p) (hm : LenQ q) (ho : LenQ r) (h0 : soundQ p = false) : Calls Try.prog 3 #[numV p a1 ac1 a2 ac2 a3 ac3 a4 ac4, numV q u1 uc1 u2 uc2 u3 uc3 u4 uc4, numV r y1 yc1 y2 yc2 y3 yc3 y4 yc4] w fun e w' => e = .returned (.bool true) ∧ Below w.heap.size w w' := by
  have hS : St w w [] [(y4, r.q2), (y3, r.t2), (y2, r.q1), (y1, r.t1), (u4, q.q2), (u3, q.t2), (u2, q.q1), (u1, q.t1), (a4, p.q2), (a3, p.t2), (a2, p.q1), (a1, p.t1)] [] := ((((((((((((St.start w).addR ha.s1.rd).addR ha.s2.rd).addR ha.s3.rd).addR ha.s4.rd).addR hb.s1.rd).addR hb.s2.rd).addR hb.s3.rd).addR hb.s4.rd).addR hc.s1.rd).addR hc.s2.rd).addR hc.s3.rd).addR hc.s4.rd
  refine walk_of (l := [(0, .agg #[.bool p.b1, .slice a1 p.t1.length ac1, .slice a2 p.q1.length ac2, .bool p.b2, .slice a3 p.t2.length ac3, .slice a4 p.q2.length ac4]), (1, .agg #[.bool q.b1, .slice u1 q.t1.length uc1, .slice u2 q.q1.length uc2, .bool q.b2, .slice u3 q.t2.length uc3, .slice u4 q.q2.length uc4]), (2, .agg #[.bool r.b1, .slice y1 r.t1.length yc1, .slice y2 r.q1.length yc2, .bool r.b2, .slice y3 r.t2.length yc3, .slice y4 r.q2.length yc4])]) Try.func3 rfl Try.ntmps3 rfl rfl ?_
  intro Q hret hnorm hP a hA
  refine wp_seq_k (fun K1 hK1 => ?_)
  refine wp_region_lit ?_
  refine seq_new (vs := [.bool p.b1, .slice a1 p.t1.length ac1, .slice a2 p.q1.length ac2, .bool p.b2, .slice a3 p.t2.length ac3, .slice a4 p.q2.length ac4]) (t := 26) hA hS rfl rfl rfl (fun g => .pointer (some ⟨g, 0, none⟩)) (does_box rfl rfl) rfl ?_
  intro g2 w3 hS a hA
  refine seq_new (vs := [.bool q.b1, .slice u1 q.t1.length uc1, .slice u2 q.q1.length uc2, .bool q.b2, .slice u3 q.t2.length uc3, .slice u4 q.q2.length uc4]) (t := 26) hA hS rfl rfl rfl (fun g => .pointer (some ⟨g, 0, none⟩)) (does_box rfl rfl) rfl ?_
  intro g4 w5 hS a hA
  refine seq_new (vs := [.bool r.b1, .slice y1 r.t1.length yc1, .slice y2 r.q1.length yc2, .bool r.b2, .slice y3 r.t2.length yc3, .slice y4 r.q2.length yc4]) (t := 26) hA hS rfl rfl rfl (fun g => .pointer (some ⟨g, 0, none⟩)) (does_box rfl rfl) rfl ?_
  intro g6 w7 hS a hA
  refine seq_do hA rfl rfl rfl (does_assign rfl) ?_
  intro a hA
  refine seq_end ?_
  refine hK1 _ _ ?_
  refine wp_seq_k (fun K8 hK8 => ?_)
  refine wp_seq_k (fun K9 hK9 => ?_)
  refine wp_region_lit ?_
  refine seq_call hA rfl rfl rfl (enters_func  rfl rfl (fun w => by kernel_rfl)) (awake3_any) ?_
  rintro _ w11 ⟨rfl, hb10⟩
  replace hS := hS.call hb10
  refine ⟨_, rfl, ?_⟩
  intro a hA
  refine seq_do (v := .bool false) hA rfl rfl rfl (does_un rfl un_not) ?_
  intro a hA
  refine seq_do hA rfl rfl rfl (does_move rfl) ?_
  intro a hA
  refine seq_do (v := .agg #[.bool p.b1, .slice a1 p.t1.length ac1, .slice a2 p.q1.length ac2, .bool p.b2, .slice a3 p.t2.length ac3, .slice a4 p.q2.length ac4]) hA rfl rfl rfl (does_loadS hS ExN_isS_26 rfl 2 rfl (cs := [.bool p.b1, .slice a1 p.t1.length ac1, .slice a2 p.q1.length ac2, .bool p.b2, .slice a3 p.t2.length ac3, .slice a4 p.q2.length ac4]) rfl rfl) ?_
  intro a hA
  refine seq_call hA rfl rfl rfl (enters_func  rfl rfl (fun w => by kernel_rfl)) (soundQ_any (show Nm _ p a1 ac1 a2 ac2 a3 ac3 a4 ac4 from ⟨⟨(hS.rd 11 rfl), ha.s1.nil, ha.s1.cap⟩, ⟨(hS.rd 10 rfl), ha.s2.nil, ha.s2.cap⟩, ⟨(hS.rd 9 rfl), ha.s3.nil, ha.s3.cap⟩, ⟨(hS.rd 8 rfl), ha.s4.nil, ha.s4.cap⟩⟩) hl h0) ?_
  rintro _ w13 ⟨rfl, hb12⟩
  replace hS := hS.call hb12
  refine ⟨_, rfl, ?_⟩
  intro a hA
  refine seq_do (v := .bool true) hA rfl rfl rfl (does_un rfl un_not) ?_
  intro a hA
  refine seq_do (v := .bool true) hA rfl rfl rfl (does_pick rfl rfl rfl rfl) ?_
  intro a hA
  refine seq_do hA rfl rfl rfl (does_move rfl) ?_
  intro a hA
  refine seq_skip hA rfl rfl rfl ?_
  intro a hA
  refine seq_skip hA rfl rfl rfl ?_
  intro a hA
  refine seq_skip hA rfl rfl rfl ?_
  intro a hA
  refine seq_do (v := .bool true) hA rfl rfl rfl (does_pick rfl rfl rfl rfl) ?_
  intro a hA
  refine seq_do hA rfl rfl rfl (does_move rfl) ?_
  intro a hA
  refine seq_skip hA rfl rfl rfl ?_
  intro a hA
  refine seq_skip hA rfl rfl rfl ?_
  intro a hA
  refine seq_skip hA rfl rfl rfl ?_
  intro a hA
  refine seq_do (v := .bool true) hA rfl rfl rfl (does_pick rfl rfl rfl rfl) ?_
  intro a hA
  refine seq_end ?_
  refine hK9 _ _ ?_
  refine wp_cond_true (hA.ev rfl) ?_
  refine wp_seq_k (fun K14 hK14 => ?_)
  refine wp_region_lit ?_
  refine seq_call hA rfl rfl rfl (enters_func  rfl rfl (fun w => by kernel_rfl)) (awake3_any) ?_
  rintro _ w16 ⟨rfl, hb15⟩
  replace hS := hS.call hb15
  refine ⟨_, rfl, ?_⟩
  intro a hA
  refine seq_do hA rfl rfl rfl (does_assign rfl) ?_
  intro a hA
  refine seq_end ?_
  refine hK14 _ _ ?_
  refine wp_ret ?_
  refine hret _ _ ?_
  refine ends (v := .bool true) hA rfl (.cons (res_tmp rfl) .nil) rfl ?_
  exact ⟨rfl, hS.bel⟩
theorem fieldE1_any {w : World} {p q r : Q6} {a1 a2 a3 a4 : Option Addr} {ac1 ac2 ac3 ac4 : Nat} (ha : Nm w p a1 ac1 a2 ac2 a3 ac3 a4 ac4) {u1 u2 u3 u4 : Option Addr} {uc1 uc2 uc3 uc4 : Nat} (hb : Nm w q u1 uc1 u2 uc2 u3 uc3 u4 uc4) {y1 y2 y3 y4 : Option Addr} {yc1 yc2 yc3 yc4 : Nat} (hc : Nm w r y1 yc1 y2 yc2 y3 yc3 y4 yc4) (hl : LenQ p) (hm : LenQ q) (ho : LenQ r) (h0 : soundQ p = true) (h1 : soundQ q = false) : Calls Try.prog 3 #[numV p a1 ac1 a2 ac2 a3 ac3 a4 ac4, numV q u1 uc1 u2 uc2 u3 uc3 u4 uc4, numV r y1 yc1 y2 yc2 y3 yc3 y4 yc4] w fun e w' => e = .returned (.bool true) ∧ Below w.heap.size w w' := by
  have hS : St w w [] [(y4, r.q2), (y3, r.t2), (y2, r.q1), (y1, r.t1), (u4, q.q2), (u3, q.t2), (u2, q.q1), (u1, q.t1), (a4, p.q2), (a3, p.t2), (a2, p.q1), (a1, p.t1)] [] := ((((((((((((St.start w).addR ha.s1.rd).addR ha.s2.rd).addR ha.s3.rd).addR ha.s4.rd).addR hb.s1.rd).addR hb.s2.rd).addR hb.s3.rd).addR hb.s4.rd).addR hc.s1.rd).addR hc.s2.rd).addR hc.s3.rd).addR hc.s4.rd
  refine walk_of (l := [(0, .agg #[.bool p.b1, .slice a1 p.t1.length ac1, .slice a2 p.q1.length ac2, .bool p.b2, .slice a3 p.t2.length ac3, .slice a4 p.q2.length ac4]), (1, .agg #[.bool q.b1, .slice u1 q.t1.length uc1, .slice u2 q.q1.length uc2, .bool q.b2, .slice u3 q.t2.length uc3, .slice u4 q.q2.length uc4]), (2, .agg #[.bool r.b1, .slice y1 r.t1.length yc1, .slice y2 r.q1.length yc2, .bool r.b2, .slice y3 r.t2.length yc3, .slice y4 r.q2.length yc4])]) Try.func3 rfl Try.ntmps3 rfl rfl ?_
  intro Q hret hnorm hP a hA
  refine wp_seq_k (fun K1 hK1 => ?_)
  refine wp_region_lit ?_
  refine seq_new (vs := [.bool p.b1, .slice a1 p.t1.length ac1, .slice a2 p.q1.length ac2, .bool p.b2, .slice a3 p.t2.length ac3, .slice a4 p.q2.length ac4]) (t := 26) hA hS rfl rfl rfl (fun g => .pointer (some ⟨g, 0, none⟩)) (does_box rfl rfl) rfl ?_
  intro g2 w3 hS a hA
  refine seq_new (vs := [.bool q.b1, .slice u1 q.t1.length uc1, .slice u2 q.q1.length uc2, .bool q.b2, .slice u3 q.t2.length uc3, .slice u4 q.q2.length uc4]) (t := 26) hA hS rfl rfl rfl (fun g => .pointer (some ⟨g, 0, none⟩)) (does_box rfl rfl) rfl ?_
  intro g4 w5 hS a hA
  refine seq_new (vs := [.bool r.b1, .slice y1 r.t1.length yc1, .slice y2 r.q1.length yc2, .bool r.b2, .slice y3 r.t2.length yc3, .slice y4 r.q2.length yc4]) (t := 26) hA hS rfl rfl rfl (fun g => .pointer (some ⟨g, 0, none⟩)) (does_box rfl rfl) rfl ?_
  intro g6 w7 hS a hA
  refine seq_do hA rfl rfl rfl (does_assign rfl) ?_
  intro a hA
  refine seq_end ?_
  refine hK1 _ _ ?_
  refine wp_seq_k (fun K8 hK8 => ?_)
  refine wp_seq_k (fun K9 hK9 => ?_)
  refine wp_region_lit ?_
  refine seq_call hA rfl rfl rfl (enters_func  rfl rfl (fun w => by kernel_rfl)) (awake3_any) ?_
  rintro _ w11 ⟨rfl, hb10⟩
  replace hS := hS.call hb10
  refine ⟨_, rfl, ?_⟩
  intro a hA
  refine seq_do (v := .bool false) hA rfl rfl rfl (does_un rfl un_not) ?_
  intro a hA
  refine seq_do hA rfl rfl rfl (does_move rfl) ?_
  intro a hA
  refine seq_do (v := .agg #[.bool p.b1, .slice a1 p.t1.length ac1, .slice a2 p.q1.length ac2, .bool p.b2, .slice a3 p.t2.length ac3, .slice a4 p.q2.length ac4]) hA rfl rfl rfl (does_loadS hS ExN_isS_26 rfl 2 rfl (cs := [.bool p.b1, .slice a1 p.t1.length ac1, .slice a2 p.q1.length ac2, .bool p.b2, .slice a3 p.t2.length ac3, .slice a4 p.q2.length ac4]) rfl rfl) ?_
  intro a hA
  refine seq_call hA rfl rfl rfl (enters_func  rfl rfl (fun w => by kernel_rfl)) (soundQ_any (show Nm _ p a1 ac1 a2 ac2 a3 ac3 a4 ac4 from ⟨⟨(hS.rd 11 rfl), ha.s1.nil, ha.s1.cap⟩, ⟨(hS.rd 10 rfl), ha.s2.nil, ha.s2.cap⟩, ⟨(hS.rd 9 rfl), ha.s3.nil, ha.s3.cap⟩, ⟨(hS.rd 8 rfl), ha.s4.nil, ha.s4.cap⟩⟩) hl h0) ?_
  rintro _ w13 ⟨rfl, hb12⟩
  replace hS := hS.call hb12
  refine ⟨_, rfl, ?_⟩
  intro a hA
  refine seq_do (v := .bool false) hA rfl rfl rfl (does_un rfl un_not) ?_
  intro a hA
  refine seq_do (v := .bool false) hA rfl rfl rfl (does_pick rfl rfl rfl rfl) ?_
  intro a hA
  refine seq_do hA rfl rfl rfl (does_move rfl) ?_
  intro a hA
  refine seq_do (v := .agg #[.bool q.b1, .slice u1 q.t1.length uc1, .slice u2 q.q1.length uc2, .bool q.b2, .slice u3 q.t2.length uc3, .slice u4 q.q2.length uc4]) hA rfl rfl rfl (does_loadS hS ExN_isS_26 rfl 1 rfl (cs := [.bool q.b1, .slice u1 q.t1.length uc1, .slice u2 q.q1.length uc2, .bool q.b2, .slice u3 q.t2.length uc3, .slice u4 q.q2.length uc4]) rfl rfl) ?_
  intro a hA
  refine seq_call hA rfl rfl rfl (enters_func  rfl rfl (fun w => by kernel_rfl)) (soundQ_any (show Nm _ q u1 uc1 u2 uc2 u3 uc3 u4 uc4 from ⟨⟨(hS.rd 7 rfl), hb.s1.nil, hb.s1.cap⟩, ⟨(hS.rd 6 rfl), hb.s2.nil, hb.s2.cap⟩, ⟨(hS.rd 5 rfl), hb.s3.nil, hb.s3.cap⟩, ⟨(hS.rd 4 rfl), hb.s4.nil, hb.s4.cap⟩⟩) hm h1) ?_
  rintro _ w15 ⟨rfl, hb14⟩
  replace hS := hS.call hb14
  refine ⟨_, rfl, ?_⟩
  intro a hA
  refine seq_do (v := .bool true) hA rfl rfl rfl (does_un rfl un_not) ?_
  intro a hA
  refine seq_do (v := .bool true) hA rfl rfl rfl (does_pick rfl rfl rfl rfl) ?_
  intro a hA
  refine seq_do hA rfl rfl rfl (does_move rfl) ?_
  intro a hA
  refine seq_skip hA rfl rfl rfl ?_
  intro a hA
  refine seq_skip hA rfl rfl rfl ?_
  intro a hA
  refine seq_skip hA rfl rfl rfl ?_
  intro a hA
  refine seq_do (v := .bool true) hA rfl rfl rfl (does_pick rfl rfl rfl rfl) ?_
  intro a hA
  refine seq_end ?_
  refine hK9 _ _ ?_
  refine wp_cond_true (hA.ev rfl) ?_
  refine wp_seq_k (fun K16 hK16 => ?_)
  refine wp_region_lit ?_
  refine seq_call hA rfl rfl rfl (enters_func  rfl rfl (fun w => by kernel_rfl)) (awake3_any) ?_
  rintro _ w18 ⟨rfl, hb17⟩
  replace hS := hS.call hb17
  refine ⟨_, rfl, ?_⟩
  intro a hA
  refine seq_do hA rfl rfl rfl (does_assign rfl) ?_
  intro a hA
  refine seq_end ?_
  refine hK16 _ _ ?_
  refine wp_ret ?_
  refine hret _ _ ?_
  refine ends (v := .bool true) hA rfl (.cons (res_tmp rfl) .nil) rfl ?_
  exact ⟨rfl, hS.bel⟩
theorem fieldE2_any {w : World} {p q r : Q6} {a1 a2 a3 a4 : Option Addr} {ac1 ac2 ac3 ac4 : Nat} (ha : Nm w p a1 ac1 a2 ac2 a3 ac3 a4 ac4) {u1 u2 u3 u4 : Option Addr} {uc1 uc2 uc3 uc4 : Nat} (hb : Nm w q u1 uc1 u2 uc2 u3 uc3 u4 uc4) {y1 y2 y3 y4 : Option Addr} {yc1 yc2 yc3 yc4 : Nat} (hc : Nm w r y1 yc1 y2 yc2 y3 yc3 y4 yc4) (hl : LenQ p) (hm : LenQ q) (ho : LenQ r) (h0 : soundQ p = true) (h1 : soundQ q = true) (h2 : soundQ r = false) : Calls Try.prog 3 #[numV p a1 ac1 a2 ac2 a3 ac3 a4 ac4, numV q u1 uc1 u2 uc2 u3 uc3 u4 uc4, numV r y1 yc1 y2 yc2 y3 yc3 y4 yc4] w fun e w' => e = .returned (.bool true) ∧ Below w.heap.size w w' := by
  have hS : St w w [] [(y4, r.q2), (y3, r.t2), (y2, r.q1), (y1, r.t1), (u4, q.q2), (u3, q.t2), (u2, q.q1), (u1, q.t1), (a4, p.q2), (a3, p.t2), (a2, p.q1), (a1, p.t1)] [] := ((((((((((((St.start w).addR ha.s1.rd).addR ha.s2.rd).addR ha.s3.rd).addR ha.s4.rd).addR hb.s1.rd).addR hb.s2.rd).addR hb.s3.rd).addR hb.s4.rd).addR hc.s1.rd).addR hc.s2.rd).addR hc.s3.rd).addR hc.s4.rd
  refine walk_of (l := [(0, .agg #[.bool p.b1, .slice a1 p.t1.length ac1, .slice a2 p.q1.length ac2, .bool p.b2, .slice a3 p.t2.length ac3, .slice a4 p.q2.length ac4]), (1, .agg #[.bool q.b1, .slice u1 q.t1.length uc1, .slice u2 q.q1.length uc2, .bool q.b2, .slice u3 q.t2.length uc3, .slice u4 q.q2.length uc4]), (2, .agg #[.bool r.b1, .slice y1 r.t1.length yc1, .slice y2 r.q1.length yc2, .bool r.b2, .slice y3 r.t2.length yc3, .slice y4 r.q2.length yc4])]) Try.func3 rfl Try.ntmps3 rfl rfl ?_
  intro Q hret hnorm hP a hA
  refine wp_seq_k (fun K1 hK1 => ?_)
  refine wp_region_lit ?_
  refine seq_new (vs := [.bool p.b1, .slice a1 p.t1.length ac1, .slice a2 p.q1.length ac2, .bool p.b2, .slice a3 p.t2.length ac3, .slice a4 p.q2.length ac4]) (t := 26) hA hS rfl rfl rfl (fun g => .pointer (some ⟨g, 0, none⟩)) (does_box rfl rfl) rfl ?_
  intro g2 w3 hS a hA
  refine seq_new (vs := [.bool q.b1, .slice u1 q.t1.length uc1, .slice u2 q.q1.length uc2, .bool q.b2, .slice u3 q.t2.length uc3, .slice u4 q.q2.length uc4]) (t := 26) hA hS rfl rfl rfl (fun g => .pointer (some ⟨g, 0, none⟩)) (does_box rfl rfl) rfl ?_
  intro g4 w5 hS a hA
  refine seq_new (vs := [.bool r.b1, .slice y1 r.t1.length yc1, .slice y2 r.q1.length yc2, .bool r.b2, .slice y3 r.t2.length yc3, .slice y4 r.q2.length yc4]) (t := 26) hA hS rfl rfl rfl (fun g => .pointer (some ⟨g, 0, none⟩)) (does_box rfl rfl) rfl ?_
  intro g6 w7 hS a hA
  refine seq_do hA rfl rfl rfl (does_assign rfl) ?_
  intro a hA
  refine seq_end ?_
  refine hK1 _ _ ?_
  refine wp_seq_k (fun K8 hK8 => ?_)
  refine wp_seq_k (fun K9 hK9 => ?_)
  refine wp_region_lit ?_
  refine seq_call hA rfl rfl rfl (enters_func  rfl rfl (fun w => by kernel_rfl)) (awake3_any) ?_
  rintro _ w11 ⟨rfl, hb10⟩
  replace hS := hS.call hb10
  refine ⟨_, rfl, ?_⟩
  intro a hA
  refine seq_do (v := .bool false) hA rfl rfl rfl (does_un rfl un_not) ?_
  intro a hA
  refine seq_do hA rfl rfl rfl (does_move rfl) ?_
  intro a hA
  refine seq_do (v := .agg #[.bool p.b1, .slice a1 p.t1.length ac1, .slice a2 p.q1.length ac2, .bool p.b2, .slice a3 p.t2.length ac3, .slice a4 p.q2.length ac4]) hA rfl rfl rfl (does_loadS hS ExN_isS_26 rfl 2 rfl (cs := [.bool p.b1, .slice a1 p.t1.length ac1, .slice a2 p.q1.length ac2, .bool p.b2, .slice a3 p.t2.length ac3, .slice a4 p.q2.length ac4]) rfl rfl) ?_
  intro a hA
  refine seq_call hA rfl rfl rfl (enters_func  rfl rfl (fun w => by kernel_rfl)) (soundQ_any (show Nm _ p a1 ac1 a2 ac2 a3 ac3 a4 ac4 from ⟨⟨(hS.rd 11 rfl), ha.s1.nil, ha.s1.cap⟩, ⟨(hS.rd 10 rfl), ha.s2.nil, ha.s2.cap⟩, ⟨(hS.rd 9 rfl), ha.s3.nil, ha.s3.cap⟩, ⟨(hS.rd 8 rfl), ha.s4.nil, ha.s4.cap⟩⟩) hl h0) ?_
  rintro _ w13 ⟨rfl, hb12⟩
  replace hS := hS.call hb12
  refine ⟨_, rfl, ?_⟩
  intro a hA
  refine seq_do (v := .bool false) hA rfl rfl rfl (does_un rfl un_not) ?_
  intro a hA
  refine seq_do (v := .bool false) hA rfl rfl rfl (does_pick rfl rfl rfl rfl) ?_
  intro a hA
  refine seq_do hA rfl rfl rfl (does_move rfl) ?_
  intro a hA
  refine seq_do (v := .agg #[.bool q.b1, .slice u1 q.t1.length uc1, .slice u2 q.q1.length uc2, .bool q.b2, .slice u3 q.t2.length uc3, .slice u4 q.q2.length uc4]) hA rfl rfl rfl (does_loadS hS ExN_isS_26 rfl 1 rfl (cs := [.bool q.b1, .slice u1 q.t1.length uc1, .slice u2 q.q1.length uc2, .bool q.b2, .slice u3 q.t2.length uc3, .slice u4 q.q2.length uc4]) rfl rfl) ?_
  intro a hA
  refine seq_call hA rfl rfl rfl (enters_func  rfl rfl (fun w => by kernel_rfl)) (soundQ_any (show Nm _ q u1 uc1 u2 uc2 u3 uc3 u4 uc4 from ⟨⟨(hS.rd 7 rfl), hb.s1.nil, hb.s1.cap⟩, ⟨(hS.rd 6 rfl), hb.s2.nil, hb.s2.cap⟩, ⟨(hS.rd 5 rfl), hb.s3.nil, hb.s3.cap⟩, ⟨(hS.rd 4 rfl), hb.s4.nil, hb.s4.cap⟩⟩) hm h1) ?_
  rintro _ w15 ⟨rfl, hb14⟩
  replace hS := hS.call hb14
  refine ⟨_, rfl, ?_⟩
  intro a hA
  refine seq_do (v := .bool false) hA rfl rfl rfl (does_un rfl un_not) ?_
  intro a hA
  refine seq_do (v := .bool false) hA rfl rfl rfl (does_pick rfl rfl rfl rfl) ?_
  intro a hA
  refine seq_do hA rfl rfl rfl (does_move rfl) ?_
  intro a hA
  refine seq_do (v := .agg #[.bool r.b1, .slice y1 r.t1.length yc1, .slice y2 r.q1.length yc2, .bool r.b2, .slice y3 r.t2.length yc3, .slice y4 r.q2.length yc4]) hA rfl rfl rfl (does_loadS hS ExN_isS_26 rfl 0 rfl (cs := [.bool r.b1, .slice y1 r.t1.length yc1, .slice y2 r.q1.length yc2, .bool r.b2, .slice y3 r.t2.length yc3, .slice y4 r.q2.length yc4]) rfl rfl) ?_
  intro a hA
  refine seq_call hA rfl rfl rfl (enters_func  rfl rfl (fun w => by kernel_rfl)) (soundQ_any (show Nm _ r y1 yc1 y2 yc2 y3 yc3 y4 yc4 from ⟨⟨(hS.rd 3 rfl), hc.s1.nil, hc.s1.cap⟩, ⟨(hS.rd 2 rfl), hc.s2.nil, hc.s2.cap⟩, ⟨(hS.rd 1 rfl), hc.s3.nil, hc.s3.cap⟩, ⟨(hS.rd 0 rfl), hc.s4.nil, hc.s4.cap⟩⟩) ho h2) ?_
  rintro _ w17 ⟨rfl, hb16⟩
  replace hS := hS.call hb16
  refine ⟨_, rfl, ?_⟩
  intro a hA
  refine seq_do (v := .bool true) hA rfl rfl rfl (does_un rfl un_not) ?_
  intro a hA
  refine seq_do (v := .bool true) hA rfl rfl rfl (does_pick rfl rfl rfl rfl) ?_
  intro a hA
  refine seq_end ?_
  refine hK9 _ _ ?_
  refine wp_cond_true (hA.ev rfl) ?_
  refine wp_seq_k (fun K18 hK18 => ?_)
  refine wp_region_lit ?_
  refine seq_call hA rfl rfl rfl (enters_func  rfl rfl (fun w => by kernel_rfl)) (awake3_any) ?_
  rintro _ w20 ⟨rfl, hb19⟩
  replace hS := hS.call hb19
  refine ⟨_, rfl, ?_⟩
  intro a hA
  refine seq_do hA rfl rfl rfl (does_assign rfl) ?_
  intro a hA
  refine seq_end ?_
  refine hK18 _ _ ?_
  refine wp_ret ?_
  refine hret _ _ ?_
  refine ends (v := .bool true) hA rfl (.cons (res_tmp rfl) .nil) rfl ?_
  exact ⟨rfl, hS.bel⟩
theorem field_any {w : World} {p q r : Q6} {a1 a2 a3 a4 : Option Addr} {ac1 ac2 ac3 ac4 : Nat} (ha : Nm w p a1 ac1 a2 ac2 a3 ac3 a4 ac4) {u1 u2 u3 u4 : Option Addr} {uc1 uc2 uc3 uc4 : Nat} (hb : Nm w q u1 uc1 u2 uc2 u3 uc3 u4 uc4) {y1 y2 y3 y4 : Option Addr} {yc1 yc2 yc3 yc4 : Nat} (hc : Nm w r y1 yc1 y2 yc2 y3 yc3 y4 yc4) (hl : LenQ p) (hm : LenQ q) (ho : LenQ r) : Calls Try.prog 3 #[numV p a1 ac1 a2 ac2 a3 ac3 a4 ac4, numV q u1 uc1 u2 uc2 u3 uc3 u4 uc4, numV r y1 yc1 y2 yc2 y3 yc3 y4 yc4] w fun e w' => e = .returned (.bool true) ∧ Below w.heap.size w w' := by
  rcases sound_cases ha with h0 | ⟨m1, m2, e1, hm1, hm2⟩
  · exact fieldE0_any ha hb hc hl hm ho h0
  have s0 : soundQ p = true := e1 ▸ soundQ_rat hm1 hm2
  rcases sound_cases hb with h1 | ⟨n1, n2, e2, hn1, hn2⟩
  · exact fieldE1_any ha hb hc hl hm ho s0 h1
  have s1 : soundQ q = true := e2 ▸ soundQ_rat hn1 hn2
  rcases sound_cases hc with h2 | ⟨k1, k2, e3, hk1, hk2⟩
  · exact fieldE2_any ha hb hc hl hm ho s0 s1 h2
  have s2 : soundQ r = true := e3 ▸ soundQ_rat hk1 hk2
  exact fieldW_any ha hb hc hl hm ho s0 s1 s2 rfl (lenQ_add _ _) rfl (lenQ_mul _ _) rfl (lenQ_mul _ _) rfl (lenQ_mul _ _) rfl (lenQ_add _ _) rfl (lenQ_sub _ _) rfl (lenQ_div _ _) (by
    subst e1 e2 e3
    exact field_facts hm1 hm2 hn1 hn2 hk1 hk2)
theorem exactField_any {w : World} {p q r : Q6} {a1 a2 a3 a4 : Option Addr} {ac1 ac2 ac3 ac4 : Nat} (ha : Nm w p a1 ac1 a2 ac2 a3 ac3 a4 ac4) (hl : LenQ p) {u1 u2 u3 u4 : Option Addr} {uc1 uc2 uc3 uc4 : Nat} (hb : Nm w q u1 uc1 u2 uc2 u3 uc3 u4 uc4) (hm : LenQ q) {y1 y2 y3 y4 : Option Addr} {yc1 yc2 yc3 yc4 : Nat} (hc : Nm w r y1 yc1 y2 yc2 y3 yc3 y4 yc4) (ho : LenQ r) : Calls Try.prog 3 #[numV p a1 ac1 a2 ac2 a3 ac3 a4 ac4, numV q u1 uc1 u2 uc2 u3 uc3 u4 uc4, numV r y1 yc1 y2 yc2 y3 yc3 y4 yc4] w fun e w' => e = .returned (.bool true) ∧ Below w.heap.size w w' := field_any ha hb hc hl hm ho
end Go.Proofs.Ytoafphdjdgaonaa
namespace Go.Proofs.Ytoafphdjdgaonaa
open Go.ChangeShapes Go.WideShapes Go.ChangeAt Go.RowKit Go.Joins Go.Deep
set_option linter.unusedVariables false
set_option linter.unusedSimpArgs false
set_option maxRecDepth 100000

section
variable {H : Type} {enc : TypeId × Value → H} {W : World}
theorem trod_bool {fuel : Nat} {v : Value} {x : DataW H × List MemPlace} (h : DataW.trod enc Try.prog W 0 (fun _ => true) true fuel 4 [v] = some x) : ∃ b, v = .bool b := by
  obtain ⟨b, h, _⟩ := DataW.trod_bool Try.underlying4 h
  exact ⟨b, by simpa using h⟩
theorem trod_words {fuel : Nat} {v : Value} {x : DataW H × List MemPlace} (h : DataW.trod enc Try.prog W 0 (fun _ => true) true fuel 22 [v] = some x) : ∃ ao c l, v = .slice ao l.length c ∧ Arg W ao c l := by
  rcases open_ints Try.underlying22 Try.underlying68 (by kernel_rfl) h with ⟨hcs, _⟩ | ⟨x, l, c, zs, hcs, _, hl, hm, hz, hx, hcell, hwz⟩
  · cases hcs
    exact ⟨none, 0, [], rfl, arg_nil W⟩
  · cases hcs
    obtain ⟨us, e, ha⟩ := arg_row hl hm (by simpa using hz) hcell hwz
    subst e
    exact ⟨_, _, us, rfl, ha⟩
theorem trod_rat {fuel : Nat} {v0 v1 v2 : Value} {x : DataW H × List MemPlace} (h : DataW.trod enc Try.prog W 0 (fun _ => true) true fuel 24 [v0, v1, v2] = some x) : ∃ b o1 c1 l1 o2 c2 l2, v0 = .bool b ∧ v1 = .slice o1 l1.length c1 ∧ v2 = .slice o2 l2.length c2 ∧ Arg W o1 c1 l1 ∧ Arg W o2 c2 l2 := by
  obtain ⟨y0, y1, y2, n, _, _, h0, h1, h2⟩ := trod_struct3 Try.underlying24 h
  have e0 : Try.prog.cellsOf 4 = 1 := by kernel_rfl
  have e1 : Try.prog.cellsOf 22 = 1 := by kernel_rfl
  simp only [e0, e1, List.drop_zero, List.take_succ_cons, List.take_zero, List.drop_succ_cons] at h0 h1 h2
  obtain ⟨b, rfl⟩ := trod_bool h0
  obtain ⟨o1, c1, l1, rfl, a1⟩ := trod_words h1
  obtain ⟨o2, c2, l2, rfl, a2⟩ := trod_words h2
  exact ⟨b, o1, c1, l1, o2, c2, l2, rfl, rfl, rfl, a1, a2⟩
theorem open_num {base : Nat} {v : Value} {d : DataW H} {p : List MemPlace} (hv : Value.okWide Try.prog W .any base 26 v) (h : DataW.Trod enc Try.prog W 0 (fun _ => true) true 26 v d p) :
    ∃ q o1 c1 o2 c2 o3 c3 o4 c4, v = numV q o1 c1 o2 c2 o3 c3 o4 c4 ∧ Nm W q o1 c1 o2 c2 o3 c3 o4 c4 ∧ LenQ q := by
  obtain ⟨cs, rfl, hsz⟩ := okWide_struct Try.underlying26 hv
  rw [show Try.prog.cellsOf 26 = 6 from by kernel_rfl] at hsz
  obtain ⟨cs⟩ := cs
  match cs, hsz with
  | [v0, v1, v2, v3, v4, v5], _ =>
    obtain ⟨fuel, hf⟩ := h
    obtain ⟨y0, y1, n, _, _, h0, h1⟩ := trod_struct2 Try.underlying26 hf
    have e : Try.prog.cellsOf 24 = 3 := by kernel_rfl
    simp only [Value.cells, e, List.drop_zero, List.take_succ_cons, List.take_zero, List.drop_succ_cons] at h0 h1
    obtain ⟨b1, o1, c1, l1, o2, c2, l2, rfl, rfl, rfl, a1, a2⟩ := trod_rat h0
    obtain ⟨b2, o3, c3, l3, o4, c4, l4, rfl, rfl, rfl, a3, a4⟩ := trod_rat h1
    exact ⟨⟨b1, l1, l2, b2, l3, l4⟩, o1, c1, o2, c2, o3, c3, o4, c4, rfl, ⟨⟨a1.rd, a1.nil, a1.caps⟩, ⟨a2.rd, a2.nil, a2.caps⟩, ⟨a3.rd, a3.nil, a3.caps⟩, ⟨a4.rd, a4.nil, a4.caps⟩⟩, ⟨a1.len, a2.len, a3.len, a4.len⟩⟩
end
end Go.Proofs.Ytoafphdjdgaonaa
