/- Walks of Add, Sub, Mul, Div. Walks of the text of minus three halves, and of the fixed fact. Walks of the law of the field. Walks of the document's products and inverses. The document's -a - 1, and shifts of numbers. Walks of the document's -a - 1, and of shifts. How long numbers are in bits, and their opposites less one. Walks of the document's shifts, of lengths, of opposites less one, and of questions of sameness. How many bits of a number are 1. Walks of how many bits are 1. Rows of bits put together word by word. Walks of rows of bits put together. Numbers put together bit by bit. Walks of numbers put together bit by bit, and of Not. The fixed fact on bits. Walks of the fixed fact, and of sameness by the document. Walks of the document's Mul and Div, and the law on products. Walks of the document's Add, Sub and order. Walks of the document's Cmp. Walks of the document's Same. -/
import Derived.Test.YthlkbnhbmfmchaaGreatPexacts9b
import Derived.Test.YthlkbnhbmfmchaaGreatPexacts9a
import Derived.Test.YthlkbnhbmfmchaaGreatShiftRef2
import Derived.Test.YthlkbnhbmfmchaaGreatNatQ
import Derived.Test.YthlkbnhbmfmchaaGreatBits
import Derived.Test.YthlkbnhbmfmchaaGreatNatA
namespace Go.Proofs.YthlkbnhbmfmchaaGreat
open Go.RowKit
set_option linter.unusedVariables false
set_option linter.unusedSimpArgs false
set_option maxRecDepth 100000
theorem ExL_isS_26 : IsS Tryz.prog 26 6 := ⟨⟨_, Tryz.underlying26⟩, by kernel_rfl⟩
theorem neg_len {x : Int} {k : Nat} (h : (words x.natAbs).length ≤ k) : (words (-x).natAbs).length ≤ k := by rw [Int.natAbs_neg]; exact h
theorem reckonE1_any {F : FuncId} {w : World} {p q : Q6} {a1 a2 a3 a4 : Option Addr} {ac1 ac2 ac3 ac4 : Nat} (ha : Nm w p a1 ac1 a2 ac2 a3 ac3 a4 ac4) (hl : LenQ p) {u1 u2 u3 u4 : Option Addr} {uc1 uc2 uc3 uc4 : Nat} (hb : Nm w q u1 uc1 u2 uc2 u3 uc3 u4 uc4) (hm : LenQ q) (h1 : soundQ p = false) : Calls Tryz.prog 36 #[.func (.func F) #[] #[], numV p a1 ac1 a2 ac2 a3 ac3 a4 ac4, numV q u1 uc1 u2 uc2 u3 uc3 u4 uc4] w (AnsN w (Q6.zero, 2)) := by
  have hS : St w w [] [(u4, q.q2), (u3, q.t2), (u2, q.q1), (u1, q.t1), (a4, p.q2), (a3, p.t2), (a2, p.q1), (a1, p.t1)] [] := ((((((((St.start w).addR ha.s1.rd).addR ha.s2.rd).addR ha.s3.rd).addR ha.s4.rd).addR hb.s1.rd).addR hb.s2.rd).addR hb.s3.rd).addR hb.s4.rd
  refine walk_of (l := [(0, .func (.func F) #[] #[]), (1, .agg #[.bool p.b1, .slice a1 p.t1.length ac1, .slice a2 p.q1.length ac2, .bool p.b2, .slice a3 p.t2.length ac3, .slice a4 p.q2.length ac4]), (2, .agg #[.bool q.b1, .slice u1 q.t1.length uc1, .slice u2 q.q1.length uc2, .bool q.b2, .slice u3 q.t2.length uc3, .slice u4 q.q2.length uc4])]) Tryz.func36 rfl Tryz.ntmps36 rfl rfl ?_
  intro Q hret hnorm hP a hA
  refine wp_seq_k (fun K1 hK1 => ?_)
  refine wp_region_lit ?_
  refine seq_new (vs := [.bool p.b1, .slice a1 p.t1.length ac1, .slice a2 p.q1.length ac2, .bool p.b2, .slice a3 p.t2.length ac3, .slice a4 p.q2.length ac4]) (t := 26) hA hS rfl rfl rfl (fun g => .pointer (some ⟨g, 0, none⟩)) (does_box rfl rfl) rfl ?_
  intro g2 w3 hS a hA
  refine seq_new (vs := [.bool q.b1, .slice u1 q.t1.length uc1, .slice u2 q.q1.length uc2, .bool q.b2, .slice u3 q.t2.length uc3, .slice u4 q.q2.length uc4]) (t := 26) hA hS rfl rfl rfl (fun g => .pointer (some ⟨g, 0, none⟩)) (does_box rfl rfl) rfl ?_
  intro g4 w5 hS a hA
  refine seq_new (vs := [.bool false, .slice none 0 0, .slice none 0 0, .bool false, .slice none 0 0, .slice none 0 0]) (t := 26) hA hS rfl rfl rfl (fun g => .pointer (some ⟨g, 0, none⟩)) (does_alloc (z := .agg #[.bool false, .slice none 0 0, .slice none 0 0, .bool false, .slice none 0 0, .slice none 0 0]) (by kernel_rfl) rfl) rfl ?_
  intro g6 w7 hS a hA
  refine seq_do hA rfl rfl rfl (does_assign rfl) ?_
  intro a hA
  refine seq_end ?_
  refine hK1 _ _ ?_
  refine wp_seq_k (fun K8 hK8 => ?_)
  refine wp_seq_k (fun K9 hK9 => ?_)
  refine wp_region_lit ?_
  refine seq_do (v := .agg #[.bool p.b1, .slice a1 p.t1.length ac1, .slice a2 p.q1.length ac2, .bool p.b2, .slice a3 p.t2.length ac3, .slice a4 p.q2.length ac4]) hA rfl rfl rfl (does_loadS hS ExL_isS_26 rfl 2 rfl (cs := [.bool p.b1, .slice a1 p.t1.length ac1, .slice a2 p.q1.length ac2, .bool p.b2, .slice a3 p.t2.length ac3, .slice a4 p.q2.length ac4]) rfl rfl) ?_
  intro a hA
  refine seq_call hA rfl rfl rfl (enters_func  rfl rfl (fun w => by kernel_rfl)) (soundQ_any (show Nm _ p a1 ac1 a2 ac2 a3 ac3 a4 ac4 from ⟨⟨(hS.rd 7 rfl), ha.s1.nil, ha.s1.cap⟩, ⟨(hS.rd 6 rfl), ha.s2.nil, ha.s2.cap⟩, ⟨(hS.rd 5 rfl), ha.s3.nil, ha.s3.cap⟩, ⟨(hS.rd 4 rfl), ha.s4.nil, ha.s4.cap⟩⟩) hl h1) ?_
  rintro _ w11 ⟨rfl, hb10⟩
  replace hS := hS.call hb10
  refine ⟨_, rfl, ?_⟩
  intro a hA
  refine seq_do (v := .bool true) hA rfl rfl rfl (does_un rfl un_not) ?_
  intro a hA
  refine seq_do hA rfl rfl rfl (does_move rfl) ?_
  intro a hA
  refine seq_skip hA rfl rfl rfl ?_
  intro a hA
  refine seq_skip hA rfl rfl rfl ?_
  intro a hA
  refine seq_skip hA rfl rfl rfl ?_
  intro a hA
  refine seq_do (v := .bool true) hA rfl rfl rfl (does_pick rfl rfl rfl rfl) ?_
  intro a hA
  refine seq_end ?_
  refine hK9 _ _ ?_
  refine wp_cond_true (hA.ev rfl) ?_
  refine wp_seq_k (fun K12 hK12 => ?_)
  refine wp_region_lit ?_
  refine seq_do (v := .agg #[.bool false, .slice none 0 0, .slice none 0 0, .bool false, .slice none 0 0, .slice none 0 0]) hA rfl rfl rfl (does_build rfl (fun w => by kernel_rfl)) ?_
  intro a hA
  refine seq_store (us := [.bool false, .slice none 0 0, .slice none 0 0, .bool false, .slice none 0 0, .slice none 0 0]) hA hS rfl rfl (sets_store (cs := [.bool false, .slice none 0 0, .slice none 0 0, .bool false, .slice none 0 0, .slice none 0 0]) rfl rfl rfl (by kernel_rfl) hS 0 rfl rfl rfl) 0 rfl rfl rfl rfl ?_
  intro w13 hS
  refine seq_do hA rfl rfl rfl (does_assign rfl) ?_
  intro a hA
  refine seq_end ?_
  refine hK12 _ _ ?_
  refine wp_ret ?_
  refine hret _ _ ?_
  refine ends (v := .tuple #[.agg #[.bool false, .slice none 0 0, .slice none 0 0, .bool false, .slice none 0 0, .slice none 0 0], .int .i64 2]) hA rfl (.cons (res_cell hS ExL_isS_26 rfl 0 rfl (cs := [.bool false, .slice none 0 0, .slice none 0 0, .bool false, .slice none 0 0, .slice none 0 0]) rfl rfl) (.cons (res_tmp rfl) .nil)) rfl ?_
  exact ⟨none, 0, none, 0, none, 0, none, 0, rfl, ⟨(Sc.none _), (Sc.none _), (Sc.none _), (Sc.none _)⟩, hS.bel⟩
theorem reckonE2_any {F : FuncId} {w : World} {p q : Q6} {a1 a2 a3 a4 : Option Addr} {ac1 ac2 ac3 ac4 : Nat} (ha : Nm w p a1 ac1 a2 ac2 a3 ac3 a4 ac4) (hl : LenQ p) {u1 u2 u3 u4 : Option Addr} {uc1 uc2 uc3 uc4 : Nat} (hb : Nm w q u1 uc1 u2 uc2 u3 uc3 u4 uc4) (hm : LenQ q) (h1 : soundQ p = true) (h2 : soundQ q = false) : Calls Tryz.prog 36 #[.func (.func F) #[] #[], numV p a1 ac1 a2 ac2 a3 ac3 a4 ac4, numV q u1 uc1 u2 uc2 u3 uc3 u4 uc4] w (AnsN w (Q6.zero, 2)) := by
  have hS : St w w [] [(u4, q.q2), (u3, q.t2), (u2, q.q1), (u1, q.t1), (a4, p.q2), (a3, p.t2), (a2, p.q1), (a1, p.t1)] [] := ((((((((St.start w).addR ha.s1.rd).addR ha.s2.rd).addR ha.s3.rd).addR ha.s4.rd).addR hb.s1.rd).addR hb.s2.rd).addR hb.s3.rd).addR hb.s4.rd
  refine walk_of (l := [(0, .func (.func F) #[] #[]), (1, .agg #[.bool p.b1, .slice a1 p.t1.length ac1, .slice a2 p.q1.length ac2, .bool p.b2, .slice a3 p.t2.length ac3, .slice a4 p.q2.length ac4]), (2, .agg #[.bool q.b1, .slice u1 q.t1.length uc1, .slice u2 q.q1.length uc2, .bool q.b2, .slice u3 q.t2.length uc3, .slice u4 q.q2.length uc4])]) Tryz.func36 rfl Tryz.ntmps36 rfl rfl ?_
  intro Q hret hnorm hP a hA
  refine wp_seq_k (fun K1 hK1 => ?_)
  refine wp_region_lit ?_
  refine seq_new (vs := [.bool p.b1, .slice a1 p.t1.length ac1, .slice a2 p.q1.length ac2, .bool p.b2, .slice a3 p.t2.length ac3, .slice a4 p.q2.length ac4]) (t := 26) hA hS rfl rfl rfl (fun g => .pointer (some ⟨g, 0, none⟩)) (does_box rfl rfl) rfl ?_
  intro g2 w3 hS a hA
  refine seq_new (vs := [.bool q.b1, .slice u1 q.t1.length uc1, .slice u2 q.q1.length uc2, .bool q.b2, .slice u3 q.t2.length uc3, .slice u4 q.q2.length uc4]) (t := 26) hA hS rfl rfl rfl (fun g => .pointer (some ⟨g, 0, none⟩)) (does_box rfl rfl) rfl ?_
  intro g4 w5 hS a hA
  refine seq_new (vs := [.bool false, .slice none 0 0, .slice none 0 0, .bool false, .slice none 0 0, .slice none 0 0]) (t := 26) hA hS rfl rfl rfl (fun g => .pointer (some ⟨g, 0, none⟩)) (does_alloc (z := .agg #[.bool false, .slice none 0 0, .slice none 0 0, .bool false, .slice none 0 0, .slice none 0 0]) (by kernel_rfl) rfl) rfl ?_
  intro g6 w7 hS a hA
  refine seq_do hA rfl rfl rfl (does_assign rfl) ?_
  intro a hA
  refine seq_end ?_
  refine hK1 _ _ ?_
  refine wp_seq_k (fun K8 hK8 => ?_)
  refine wp_seq_k (fun K9 hK9 => ?_)
  refine wp_region_lit ?_
  refine seq_do (v := .agg #[.bool p.b1, .slice a1 p.t1.length ac1, .slice a2 p.q1.length ac2, .bool p.b2, .slice a3 p.t2.length ac3, .slice a4 p.q2.length ac4]) hA rfl rfl rfl (does_loadS hS ExL_isS_26 rfl 2 rfl (cs := [.bool p.b1, .slice a1 p.t1.length ac1, .slice a2 p.q1.length ac2, .bool p.b2, .slice a3 p.t2.length ac3, .slice a4 p.q2.length ac4]) rfl rfl) ?_
  intro a hA
  refine seq_call hA rfl rfl rfl (enters_func  rfl rfl (fun w => by kernel_rfl)) (soundQ_any (show Nm _ p a1 ac1 a2 ac2 a3 ac3 a4 ac4 from ⟨⟨(hS.rd 7 rfl), ha.s1.nil, ha.s1.cap⟩, ⟨(hS.rd 6 rfl), ha.s2.nil, ha.s2.cap⟩, ⟨(hS.rd 5 rfl), ha.s3.nil, ha.s3.cap⟩, ⟨(hS.rd 4 rfl), ha.s4.nil, ha.s4.cap⟩⟩) hl h1) ?_
  rintro _ w11 ⟨rfl, hb10⟩
  replace hS := hS.call hb10
  refine ⟨_, rfl, ?_⟩
  intro a hA
  refine seq_do (v := .bool false) hA rfl rfl rfl (does_un rfl un_not) ?_
  intro a hA
  refine seq_do hA rfl rfl rfl (does_move rfl) ?_
  intro a hA
  refine seq_do (v := .agg #[.bool q.b1, .slice u1 q.t1.length uc1, .slice u2 q.q1.length uc2, .bool q.b2, .slice u3 q.t2.length uc3, .slice u4 q.q2.length uc4]) hA rfl rfl rfl (does_loadS hS ExL_isS_26 rfl 1 rfl (cs := [.bool q.b1, .slice u1 q.t1.length uc1, .slice u2 q.q1.length uc2, .bool q.b2, .slice u3 q.t2.length uc3, .slice u4 q.q2.length uc4]) rfl rfl) ?_
  intro a hA
  refine seq_call hA rfl rfl rfl (enters_func  rfl rfl (fun w => by kernel_rfl)) (soundQ_any (show Nm _ q u1 uc1 u2 uc2 u3 uc3 u4 uc4 from ⟨⟨(hS.rd 3 rfl), hb.s1.nil, hb.s1.cap⟩, ⟨(hS.rd 2 rfl), hb.s2.nil, hb.s2.cap⟩, ⟨(hS.rd 1 rfl), hb.s3.nil, hb.s3.cap⟩, ⟨(hS.rd 0 rfl), hb.s4.nil, hb.s4.cap⟩⟩) hm h2) ?_
  rintro _ w13 ⟨rfl, hb12⟩
  replace hS := hS.call hb12
  refine ⟨_, rfl, ?_⟩
  intro a hA
  refine seq_do (v := .bool true) hA rfl rfl rfl (does_un rfl un_not) ?_
  intro a hA
  refine seq_do (v := .bool true) hA rfl rfl rfl (does_pick rfl rfl rfl rfl) ?_
  intro a hA
  refine seq_end ?_
  refine hK9 _ _ ?_
  refine wp_cond_true (hA.ev rfl) ?_
  refine wp_seq_k (fun K14 hK14 => ?_)
  refine wp_region_lit ?_
  refine seq_do (v := .agg #[.bool false, .slice none 0 0, .slice none 0 0, .bool false, .slice none 0 0, .slice none 0 0]) hA rfl rfl rfl (does_build rfl (fun w => by kernel_rfl)) ?_
  intro a hA
  refine seq_store (us := [.bool false, .slice none 0 0, .slice none 0 0, .bool false, .slice none 0 0, .slice none 0 0]) hA hS rfl rfl (sets_store (cs := [.bool false, .slice none 0 0, .slice none 0 0, .bool false, .slice none 0 0, .slice none 0 0]) rfl rfl rfl (by kernel_rfl) hS 0 rfl rfl rfl) 0 rfl rfl rfl rfl ?_
  intro w15 hS
  refine seq_do hA rfl rfl rfl (does_assign rfl) ?_
  intro a hA
  refine seq_end ?_
  refine hK14 _ _ ?_
  refine wp_ret ?_
  refine hret _ _ ?_
  refine ends (v := .tuple #[.agg #[.bool false, .slice none 0 0, .slice none 0 0, .bool false, .slice none 0 0, .slice none 0 0], .int .i64 2]) hA rfl (.cons (res_cell hS ExL_isS_26 rfl 0 rfl (cs := [.bool false, .slice none 0 0, .slice none 0 0, .bool false, .slice none 0 0, .slice none 0 0]) rfl rfl) (.cons (res_tmp rfl) .nil)) rfl ?_
  exact ⟨none, 0, none, 0, none, 0, none, 0, rfl, ⟨(Sc.none _), (Sc.none _), (Sc.none _), (Sc.none _)⟩, hS.bel⟩
theorem divE1_any {w : World} {p q : Q6} {a1 a2 a3 a4 : Option Addr} {ac1 ac2 ac3 ac4 : Nat} (ha : Nm w p a1 ac1 a2 ac2 a3 ac3 a4 ac4) (hl : LenQ p) {u1 u2 u3 u4 : Option Addr} {uc1 uc2 uc3 uc4 : Nat} (hb : Nm w q u1 uc1 u2 uc2 u3 uc3 u4 uc4) (hm : LenQ q) (h1 : soundQ p = false) : Calls Tryz.prog 54 #[numV p a1 ac1 a2 ac2 a3 ac3 a4 ac4, numV q u1 uc1 u2 uc2 u3 uc3 u4 uc4] w (AnsN w (Q6.zero, 2)) := by
  have hS : St w w [] [(u4, q.q2), (u3, q.t2), (u2, q.q1), (u1, q.t1), (a4, p.q2), (a3, p.t2), (a2, p.q1), (a1, p.t1)] [] := ((((((((St.start w).addR ha.s1.rd).addR ha.s2.rd).addR ha.s3.rd).addR ha.s4.rd).addR hb.s1.rd).addR hb.s2.rd).addR hb.s3.rd).addR hb.s4.rd
  refine walk_of (l := [(0, .agg #[.bool p.b1, .slice a1 p.t1.length ac1, .slice a2 p.q1.length ac2, .bool p.b2, .slice a3 p.t2.length ac3, .slice a4 p.q2.length ac4]), (1, .agg #[.bool q.b1, .slice u1 q.t1.length uc1, .slice u2 q.q1.length uc2, .bool q.b2, .slice u3 q.t2.length uc3, .slice u4 q.q2.length uc4])]) Tryz.func54 rfl Tryz.ntmps54 rfl rfl ?_
  intro Q hret hnorm hP a hA
  refine wp_seq_k (fun K1 hK1 => ?_)
  refine wp_region_lit ?_
  refine seq_new (vs := [.bool p.b1, .slice a1 p.t1.length ac1, .slice a2 p.q1.length ac2, .bool p.b2, .slice a3 p.t2.length ac3, .slice a4 p.q2.length ac4]) (t := 26) hA hS rfl rfl rfl (fun g => .pointer (some ⟨g, 0, none⟩)) (does_box rfl rfl) rfl ?_
  intro g2 w3 hS a hA
  refine seq_new (vs := [.bool q.b1, .slice u1 q.t1.length uc1, .slice u2 q.q1.length uc2, .bool q.b2, .slice u3 q.t2.length uc3, .slice u4 q.q2.length uc4]) (t := 26) hA hS rfl rfl rfl (fun g => .pointer (some ⟨g, 0, none⟩)) (does_box rfl rfl) rfl ?_
  intro g4 w5 hS a hA
  refine seq_new (vs := [.bool false, .slice none 0 0, .slice none 0 0, .bool false, .slice none 0 0, .slice none 0 0]) (t := 26) hA hS rfl rfl rfl (fun g => .pointer (some ⟨g, 0, none⟩)) (does_alloc (z := .agg #[.bool false, .slice none 0 0, .slice none 0 0, .bool false, .slice none 0 0, .slice none 0 0]) (by kernel_rfl) rfl) rfl ?_
  intro g6 w7 hS a hA
  refine seq_do hA rfl rfl rfl (does_assign rfl) ?_
  intro a hA
  refine seq_end ?_
  refine hK1 _ _ ?_
  refine wp_seq_k (fun K8 hK8 => ?_)
  refine wp_seq_k (fun K9 hK9 => ?_)
  refine wp_region_lit ?_
  refine seq_do (v := .agg #[.bool p.b1, .slice a1 p.t1.length ac1, .slice a2 p.q1.length ac2, .bool p.b2, .slice a3 p.t2.length ac3, .slice a4 p.q2.length ac4]) hA rfl rfl rfl (does_loadS hS ExL_isS_26 rfl 2 rfl (cs := [.bool p.b1, .slice a1 p.t1.length ac1, .slice a2 p.q1.length ac2, .bool p.b2, .slice a3 p.t2.length ac3, .slice a4 p.q2.length ac4]) rfl rfl) ?_
  intro a hA
  refine seq_call hA rfl rfl rfl (enters_func  rfl rfl (fun w => by kernel_rfl)) (soundQ_any (show Nm _ p a1 ac1 a2 ac2 a3 ac3 a4 ac4 from ⟨⟨(hS.rd 7 rfl), ha.s1.nil, ha.s1.cap⟩, ⟨(hS.rd 6 rfl), ha.s2.nil, ha.s2.cap⟩, ⟨(hS.rd 5 rfl), ha.s3.nil, ha.s3.cap⟩, ⟨(hS.rd 4 rfl), ha.s4.nil, ha.s4.cap⟩⟩) hl h1) ?_
  rintro _ w11 ⟨rfl, hb10⟩
  replace hS := hS.call hb10
  refine ⟨_, rfl, ?_⟩
  intro a hA
  refine seq_do (v := .bool true) hA rfl rfl rfl (does_un rfl un_not) ?_
  intro a hA
  refine seq_do hA rfl rfl rfl (does_move rfl) ?_
  intro a hA
  refine seq_skip hA rfl rfl rfl ?_
  intro a hA
  refine seq_skip hA rfl rfl rfl ?_
  intro a hA
  refine seq_skip hA rfl rfl rfl ?_
  intro a hA
  refine seq_do (v := .bool true) hA rfl rfl rfl (does_pick rfl rfl rfl rfl) ?_
  intro a hA
  refine seq_end ?_
  refine hK9 _ _ ?_
  refine wp_cond_true (hA.ev rfl) ?_
  refine wp_seq_k (fun K12 hK12 => ?_)
  refine wp_region_lit ?_
  refine seq_do (v := .agg #[.bool false, .slice none 0 0, .slice none 0 0, .bool false, .slice none 0 0, .slice none 0 0]) hA rfl rfl rfl (does_build rfl (fun w => by kernel_rfl)) ?_
  intro a hA
  refine seq_store (us := [.bool false, .slice none 0 0, .slice none 0 0, .bool false, .slice none 0 0, .slice none 0 0]) hA hS rfl rfl (sets_store (cs := [.bool false, .slice none 0 0, .slice none 0 0, .bool false, .slice none 0 0, .slice none 0 0]) rfl rfl rfl (by kernel_rfl) hS 0 rfl rfl rfl) 0 rfl rfl rfl rfl ?_
  intro w13 hS
  refine seq_do hA rfl rfl rfl (does_assign rfl) ?_
  intro a hA
  refine seq_end ?_
  refine hK12 _ _ ?_
  refine wp_ret ?_
  refine hret _ _ ?_
  refine ends (v := .tuple #[.agg #[.bool false, .slice none 0 0, .slice none 0 0, .bool false, .slice none 0 0, .slice none 0 0], .int .i64 2]) hA rfl (.cons (res_cell hS ExL_isS_26 rfl 0 rfl (cs := [.bool false, .slice none 0 0, .slice none 0 0, .bool false, .slice none 0 0, .slice none 0 0]) rfl rfl) (.cons (res_tmp rfl) .nil)) rfl ?_
  exact ⟨none, 0, none, 0, none, 0, none, 0, rfl, ⟨(Sc.none _), (Sc.none _), (Sc.none _), (Sc.none _)⟩, hS.bel⟩
theorem divE2_any {w : World} {p q : Q6} {a1 a2 a3 a4 : Option Addr} {ac1 ac2 ac3 ac4 : Nat} (ha : Nm w p a1 ac1 a2 ac2 a3 ac3 a4 ac4) (hl : LenQ p) {u1 u2 u3 u4 : Option Addr} {uc1 uc2 uc3 uc4 : Nat} (hb : Nm w q u1 uc1 u2 uc2 u3 uc3 u4 uc4) (hm : LenQ q) (h1 : soundQ p = true) (h2 : soundQ q = false) : Calls Tryz.prog 54 #[numV p a1 ac1 a2 ac2 a3 ac3 a4 ac4, numV q u1 uc1 u2 uc2 u3 uc3 u4 uc4] w (AnsN w (Q6.zero, 2)) := by
  have hS : St w w [] [(u4, q.q2), (u3, q.t2), (u2, q.q1), (u1, q.t1), (a4, p.q2), (a3, p.t2), (a2, p.q1), (a1, p.t1)] [] := ((((((((St.start w).addR ha.s1.rd).addR ha.s2.rd).addR ha.s3.rd).addR ha.s4.rd).addR hb.s1.rd).addR hb.s2.rd).addR hb.s3.rd).addR hb.s4.rd
  refine walk_of (l := [(0, .agg #[.bool p.b1, .slice a1 p.t1.length ac1, .slice a2 p.q1.length ac2, .bool p.b2, .slice a3 p.t2.length ac3, .slice a4 p.q2.length ac4]), (1, .agg #[.bool q.b1, .slice u1 q.t1.length uc1, .slice u2 q.q1.length uc2, .bool q.b2, .slice u3 q.t2.length uc3, .slice u4 q.q2.length uc4])]) Tryz.func54 rfl Tryz.ntmps54 rfl rfl ?_
  intro Q hret hnorm hP a hA
  refine wp_seq_k (fun K1 hK1 => ?_)
  refine wp_region_lit ?_
  refine seq_new (vs := [.bool p.b1, .slice a1 p.t1.length ac1, .slice a2 p.q1.length ac2, .bool p.b2, .slice a3 p.t2.length ac3, .slice a4 p.q2.length ac4]) (t := 26) hA hS rfl rfl rfl (fun g => .pointer (some ⟨g, 0, none⟩)) (does_box rfl rfl) rfl ?_
  intro g2 w3 hS a hA
  refine seq_new (vs := [.bool q.b1, .slice u1 q.t1.length uc1, .slice u2 q.q1.length uc2, .bool q.b2, .slice u3 q.t2.length uc3, .slice u4 q.q2.length uc4]) (t := 26) hA hS rfl rfl rfl (fun g => .pointer (some ⟨g, 0, none⟩)) (does_box rfl rfl) rfl ?_
  intro g4 w5 hS a hA
  refine seq_new (vs := [.bool false, .slice none 0 0, .slice none 0 0, .bool false, .slice none 0 0, .slice none 0 0]) (t := 26) hA hS rfl rfl rfl (fun g => .pointer (some ⟨g, 0, none⟩)) (does_alloc (z := .agg #[.bool false, .slice none 0 0, .slice none 0 0, .bool false, .slice none 0 0, .slice none 0 0]) (by kernel_rfl) rfl) rfl ?_
  intro g6 w7 hS a hA
  refine seq_do hA rfl rfl rfl (does_assign rfl) ?_
  intro a hA
  refine seq_end ?_
  refine hK1 _ _ ?_
  refine wp_seq_k (fun K8 hK8 => ?_)
  refine wp_seq_k (fun K9 hK9 => ?_)
  refine wp_region_lit ?_
  refine seq_do (v := .agg #[.bool p.b1, .slice a1 p.t1.length ac1, .slice a2 p.q1.length ac2, .bool p.b2, .slice a3 p.t2.length ac3, .slice a4 p.q2.length ac4]) hA rfl rfl rfl (does_loadS hS ExL_isS_26 rfl 2 rfl (cs := [.bool p.b1, .slice a1 p.t1.length ac1, .slice a2 p.q1.length ac2, .bool p.b2, .slice a3 p.t2.length ac3, .slice a4 p.q2.length ac4]) rfl rfl) ?_
  intro a hA
  refine seq_call hA rfl rfl rfl (enters_func  rfl rfl (fun w => by kernel_rfl)) (soundQ_any (show Nm _ p a1 ac1 a2 ac2 a3 ac3 a4 ac4 from ⟨⟨(hS.rd 7 rfl), ha.s1.nil, ha.s1.cap⟩, ⟨(hS.rd 6 rfl), ha.s2.nil, ha.s2.cap⟩, ⟨(hS.rd 5 rfl), ha.s3.nil, ha.s3.cap⟩, ⟨(hS.rd 4 rfl), ha.s4.nil, ha.s4.cap⟩⟩) hl h1) ?_
  rintro _ w11 ⟨rfl, hb10⟩
  replace hS := hS.call hb10
  refine ⟨_, rfl, ?_⟩
  intro a hA
  refine seq_do (v := .bool false) hA rfl rfl rfl (does_un rfl un_not) ?_
  intro a hA
  refine seq_do hA rfl rfl rfl (does_move rfl) ?_
  intro a hA
  refine seq_do (v := .agg #[.bool q.b1, .slice u1 q.t1.length uc1, .slice u2 q.q1.length uc2, .bool q.b2, .slice u3 q.t2.length uc3, .slice u4 q.q2.length uc4]) hA rfl rfl rfl (does_loadS hS ExL_isS_26 rfl 1 rfl (cs := [.bool q.b1, .slice u1 q.t1.length uc1, .slice u2 q.q1.length uc2, .bool q.b2, .slice u3 q.t2.length uc3, .slice u4 q.q2.length uc4]) rfl rfl) ?_
  intro a hA
  refine seq_call hA rfl rfl rfl (enters_func  rfl rfl (fun w => by kernel_rfl)) (soundQ_any (show Nm _ q u1 uc1 u2 uc2 u3 uc3 u4 uc4 from ⟨⟨(hS.rd 3 rfl), hb.s1.nil, hb.s1.cap⟩, ⟨(hS.rd 2 rfl), hb.s2.nil, hb.s2.cap⟩, ⟨(hS.rd 1 rfl), hb.s3.nil, hb.s3.cap⟩, ⟨(hS.rd 0 rfl), hb.s4.nil, hb.s4.cap⟩⟩) hm h2) ?_
  rintro _ w13 ⟨rfl, hb12⟩
  replace hS := hS.call hb12
  refine ⟨_, rfl, ?_⟩
  intro a hA
  refine seq_do (v := .bool true) hA rfl rfl rfl (does_un rfl un_not) ?_
  intro a hA
  refine seq_do (v := .bool true) hA rfl rfl rfl (does_pick rfl rfl rfl rfl) ?_
  intro a hA
  refine seq_end ?_
  refine hK9 _ _ ?_
  refine wp_cond_true (hA.ev rfl) ?_
  refine wp_seq_k (fun K14 hK14 => ?_)
  refine wp_region_lit ?_
  refine seq_do (v := .agg #[.bool false, .slice none 0 0, .slice none 0 0, .bool false, .slice none 0 0, .slice none 0 0]) hA rfl rfl rfl (does_build rfl (fun w => by kernel_rfl)) ?_
  intro a hA
  refine seq_store (us := [.bool false, .slice none 0 0, .slice none 0 0, .bool false, .slice none 0 0, .slice none 0 0]) hA hS rfl rfl (sets_store (cs := [.bool false, .slice none 0 0, .slice none 0 0, .bool false, .slice none 0 0, .slice none 0 0]) rfl rfl rfl (by kernel_rfl) hS 0 rfl rfl rfl) 0 rfl rfl rfl rfl ?_
  intro w15 hS
  refine seq_do hA rfl rfl rfl (does_assign rfl) ?_
  intro a hA
  refine seq_end ?_
  refine hK14 _ _ ?_
  refine wp_ret ?_
  refine hret _ _ ?_
  refine ends (v := .tuple #[.agg #[.bool false, .slice none 0 0, .slice none 0 0, .bool false, .slice none 0 0, .slice none 0 0], .int .i64 2]) hA rfl (.cons (res_cell hS ExL_isS_26 rfl 0 rfl (cs := [.bool false, .slice none 0 0, .slice none 0 0, .bool false, .slice none 0 0, .slice none 0 0]) rfl rfl) (.cons (res_tmp rfl) .nil)) rfl ?_
  exact ⟨none, 0, none, 0, none, 0, none, 0, rfl, ⟨(Sc.none _), (Sc.none _), (Sc.none _), (Sc.none _)⟩, hS.bel⟩
theorem reckonA_any {w : World} {u v x y : Rat} {a1 a2 a3 a4 : Option Addr} {ac1 ac2 ac3 ac4 : Nat} (ha : Nm w (Q6.rat u v) a1 ac1 a2 ac2 a3 ac3 a4 ac4) {u1 u2 u3 u4 : Option Addr} {uc1 uc2 uc3 uc4 : Nat} (hb : Nm w (Q6.rat x y) u1 uc1 u2 uc2 u3 uc3 u4 uc4) (hu : fitR u) (hv : fitR v) (hx : fitR x) (hy : fitR y) : Calls Tryz.prog 36 #[.func (.func 37) #[] #[], numV (Q6.rat u v) a1 ac1 a2 ac2 a3 ac3 a4 ac4, numV (Q6.rat x y) u1 uc1 u2 uc2 u3 uc3 u4 uc4] w (AnsN w (ratS (u + x) (v + y))) := by
  have hS : St w w [] [(u4, words y.den), (u3, words y.num.natAbs), (u2, words x.den), (u1, words x.num.natAbs), (a4, words v.den), (a3, words v.num.natAbs), (a2, words u.den), (a1, words u.num.natAbs)] [] := ((((((((St.start w).addR ha.s1.rd).addR ha.s2.rd).addR ha.s3.rd).addR ha.s4.rd).addR hb.s1.rd).addR hb.s2.rd).addR hb.s3.rd).addR hb.s4.rd
  refine walk_of (l := [(0, .func (.func 37) #[] #[]), (1, .agg #[.bool (rb u.num), .slice a1 ((words u.num.natAbs).length) ac1, .slice a2 ((words u.den).length) ac2, .bool (rb v.num), .slice a3 ((words v.num.natAbs).length) ac3, .slice a4 ((words v.den).length) ac4]), (2, .agg #[.bool (rb x.num), .slice u1 ((words x.num.natAbs).length) uc1, .slice u2 ((words x.den).length) uc2, .bool (rb y.num), .slice u3 ((words y.num.natAbs).length) uc3, .slice u4 ((words y.den).length) uc4])]) Tryz.func36 rfl Tryz.ntmps36 rfl rfl ?_
  intro Q hret hnorm hP a hA
  refine wp_seq_k (fun K1 hK1 => ?_)
  refine wp_region_lit ?_
  refine seq_new (vs := [.bool (rb u.num), .slice a1 ((words u.num.natAbs).length) ac1, .slice a2 ((words u.den).length) ac2, .bool (rb v.num), .slice a3 ((words v.num.natAbs).length) ac3, .slice a4 ((words v.den).length) ac4]) (t := 26) hA hS rfl rfl rfl (fun g => .pointer (some ⟨g, 0, none⟩)) (does_box rfl rfl) rfl ?_
  intro g2 w3 hS a hA
  refine seq_new (vs := [.bool (rb x.num), .slice u1 ((words x.num.natAbs).length) uc1, .slice u2 ((words x.den).length) uc2, .bool (rb y.num), .slice u3 ((words y.num.natAbs).length) uc3, .slice u4 ((words y.den).length) uc4]) (t := 26) hA hS rfl rfl rfl (fun g => .pointer (some ⟨g, 0, none⟩)) (does_box rfl rfl) rfl ?_
  intro g4 w5 hS a hA
  refine seq_new (vs := [.bool false, .slice none 0 0, .slice none 0 0, .bool false, .slice none 0 0, .slice none 0 0]) (t := 26) hA hS rfl rfl rfl (fun g => .pointer (some ⟨g, 0, none⟩)) (does_alloc (z := .agg #[.bool false, .slice none 0 0, .slice none 0 0, .bool false, .slice none 0 0, .slice none 0 0]) (by kernel_rfl) rfl) rfl ?_
  intro g6 w7 hS a hA
  refine seq_do hA rfl rfl rfl (does_assign rfl) ?_
  intro a hA
  refine seq_end ?_
  refine hK1 _ _ ?_
  refine wp_seq_k (fun K8 hK8 => ?_)
  refine wp_seq_k (fun K9 hK9 => ?_)
  refine wp_region_lit ?_
  refine seq_do (v := .agg #[.bool (rb u.num), .slice a1 ((words u.num.natAbs).length) ac1, .slice a2 ((words u.den).length) ac2, .bool (rb v.num), .slice a3 ((words v.num.natAbs).length) ac3, .slice a4 ((words v.den).length) ac4]) hA rfl rfl rfl (does_loadS hS ExL_isS_26 rfl 2 rfl (cs := [.bool (rb u.num), .slice a1 ((words u.num.natAbs).length) ac1, .slice a2 ((words u.den).length) ac2, .bool (rb v.num), .slice a3 ((words v.num.natAbs).length) ac3, .slice a4 ((words v.den).length) ac4]) rfl rfl) ?_
  intro a hA
  refine seq_call hA rfl rfl rfl (enters_func  rfl rfl (fun w => by kernel_rfl)) (soundQ_any (show Nm _ (Q6.rat u v) a1 ac1 a2 ac2 a3 ac3 a4 ac4 from ⟨⟨(hS.rd 7 rfl), ha.s1.nil, ha.s1.cap⟩, ⟨(hS.rd 6 rfl), ha.s2.nil, ha.s2.cap⟩, ⟨(hS.rd 5 rfl), ha.s3.nil, ha.s3.cap⟩, ⟨(hS.rd 4 rfl), ha.s4.nil, ha.s4.cap⟩⟩) (lenQ_rat hu hv) (soundQ_rat hu hv)) ?_
  rintro _ w11 ⟨rfl, hb10⟩
  replace hS := hS.call hb10
  refine ⟨_, rfl, ?_⟩
  intro a hA
  refine seq_do (v := .bool false) hA rfl rfl rfl (does_un rfl un_not) ?_
  intro a hA
  refine seq_do hA rfl rfl rfl (does_move rfl) ?_
  intro a hA
  refine seq_do (v := .agg #[.bool (rb x.num), .slice u1 ((words x.num.natAbs).length) uc1, .slice u2 ((words x.den).length) uc2, .bool (rb y.num), .slice u3 ((words y.num.natAbs).length) uc3, .slice u4 ((words y.den).length) uc4]) hA rfl rfl rfl (does_loadS hS ExL_isS_26 rfl 1 rfl (cs := [.bool (rb x.num), .slice u1 ((words x.num.natAbs).length) uc1, .slice u2 ((words x.den).length) uc2, .bool (rb y.num), .slice u3 ((words y.num.natAbs).length) uc3, .slice u4 ((words y.den).length) uc4]) rfl rfl) ?_
  intro a hA
  refine seq_call hA rfl rfl rfl (enters_func  rfl rfl (fun w => by kernel_rfl)) (soundQ_any (show Nm _ (Q6.rat x y) u1 uc1 u2 uc2 u3 uc3 u4 uc4 from ⟨⟨(hS.rd 3 rfl), hb.s1.nil, hb.s1.cap⟩, ⟨(hS.rd 2 rfl), hb.s2.nil, hb.s2.cap⟩, ⟨(hS.rd 1 rfl), hb.s3.nil, hb.s3.cap⟩, ⟨(hS.rd 0 rfl), hb.s4.nil, hb.s4.cap⟩⟩) (lenQ_rat hx hy) (soundQ_rat hx hy)) ?_
  rintro _ w13 ⟨rfl, hb12⟩
  replace hS := hS.call hb12
  refine ⟨_, rfl, ?_⟩
  intro a hA
  refine seq_do (v := .bool false) hA rfl rfl rfl (does_un rfl un_not) ?_
  intro a hA
  refine seq_do (v := .bool false) hA rfl rfl rfl (does_pick rfl rfl rfl rfl) ?_
  intro a hA
  refine seq_end ?_
  refine hK9 _ _ ?_
  refine wp_cond_false (hA.ev rfl) ?_
  refine wp_skip ?_
  refine hK8 _ _ ?_
  refine wp_seq_k (fun K14 hK14 => ?_)
  refine wp_draw (S := fun w1 => St w w1 [(g4, [.bool (rb x.num), .slice u1 ((words x.num.natAbs).length) uc1, .slice u2 ((words x.den).length) uc2, .bool (rb y.num), .slice u3 ((words y.num.natAbs).length) uc3, .slice u4 ((words y.den).length) uc4]), (g2, [.bool (rb u.num), .slice a1 ((words u.num.natAbs).length) ac1, .slice a2 ((words u.den).length) ac2, .bool (rb v.num), .slice a3 ((words v.num.natAbs).length) ac3, .slice a4 ((words v.den).length) ac4])] [(u4, words y.den), (u3, words y.num.natAbs), (u2, words x.den), (u1, words x.num.natAbs), (a4, words v.den), (a3, words v.num.natAbs), (a2, words u.den), (a1, words u.num.natAbs)] []) (by kernel_rfl) ?_
  replace hS := hS.drew
  refine any_take hA 0 rfl rfl rfl rfl (by kernel_rfl) (by kernel_rfl) (by kernel_rfl) (fun c a w h => hP c a _ _ w h) (hS.partD (.cons _ (.cons_cons _ (.cons_cons _ .slnil))) 0 rfl (.refl _)) (fun w1 hS => does_move rfl) ?_
  intro a hA
  refine any_take (v := .agg #[.bool (rb u.num), .slice a1 ((words u.num.natAbs).length) ac1, .slice a2 ((words u.den).length) ac2, .bool (rb v.num), .slice a3 ((words v.num.natAbs).length) ac3, .slice a4 ((words v.den).length) ac4]) hA 1 rfl rfl rfl rfl (by kernel_rfl) (by kernel_rfl) (by kernel_rfl) (fun c a w h => hP c a _ _ w h) (hS.partD (.cons _ (.cons_cons _ (.cons_cons _ .slnil))) 0 rfl (.refl _)) (fun w1 hS => does_loadS hS ExL_isS_26 rfl 1 rfl (cs := [.bool (rb u.num), .slice a1 ((words u.num.natAbs).length) ac1, .slice a2 ((words u.den).length) ac2, .bool (rb v.num), .slice a3 ((words v.num.natAbs).length) ac3, .slice a4 ((words v.den).length) ac4]) rfl rfl) ?_
  intro a hA
  refine any_take (v := .agg #[.bool (rb x.num), .slice u1 ((words x.num.natAbs).length) uc1, .slice u2 ((words x.den).length) uc2, .bool (rb y.num), .slice u3 ((words y.num.natAbs).length) uc3, .slice u4 ((words y.den).length) uc4]) hA 3 rfl rfl rfl rfl (by kernel_rfl) (by kernel_rfl) (by kernel_rfl) (fun c a w h => hP c a _ _ w h) (hS.partD (.cons _ (.cons_cons _ (.cons_cons _ .slnil))) 0 rfl (.refl _)) (fun w1 hS => does_loadS hS ExL_isS_26 rfl 0 rfl (cs := [.bool (rb x.num), .slice u1 ((words x.num.natAbs).length) uc1, .slice u2 ((words x.den).length) uc2, .bool (rb y.num), .slice u3 ((words y.num.natAbs).length) uc3, .slice u4 ((words y.den).length) uc4]) rfl rfl) ?_
  intro a hA
  refine any_one (by kernel_rfl) (op_call hA 2 rfl rfl rfl rfl (enters_func  rfl rfl (fun w => by kernel_rfl)) (zspread_any (show Nm _ (Q6.rat u v) a1 ac1 a2 ac2 a3 ac3 a4 ac4 from ⟨⟨(hS.rd 7 rfl), ha.s1.nil, ha.s1.cap⟩, ⟨(hS.rd 6 rfl), ha.s2.nil, ha.s2.cap⟩, ⟨(hS.rd 5 rfl), ha.s3.nil, ha.s3.cap⟩, ⟨(hS.rd 4 rfl), ha.s4.nil, ha.s4.cap⟩⟩) hu hv) ?_)
  rintro _ w20 ⟨p15_1, p15_c1, p15_2, p15_c2, p15_3, p15_c3, rfl, hs16, hs17, hs18, hb19⟩
  replace hS := hS.call hb19
  replace hS := hS.addR hs16.rd
  replace hS := hS.addR hs17.rd
  replace hS := hS.addR hs18.rd
  refine ⟨_, rfl, (hS.partD (.cons _ (.cons_cons _ (.cons_cons _ .slnil))) 3 rfl (.refl _)), ?_⟩
  intro a hA
  refine any_one (by kernel_rfl) (op_call hA 4 rfl rfl rfl rfl (enters_func  rfl rfl (fun w => by kernel_rfl)) (zspread_any (show Nm _ (Q6.rat x y) u1 uc1 u2 uc2 u3 uc3 u4 uc4 from ⟨⟨(hS.rd 6 rfl), hb.s1.nil, hb.s1.cap⟩, ⟨(hS.rd 5 rfl), hb.s2.nil, hb.s2.cap⟩, ⟨(hS.rd 4 rfl), hb.s3.nil, hb.s3.cap⟩, ⟨(hS.rd 3 rfl), hb.s4.nil, hb.s4.cap⟩⟩) hx hy) ?_)
  rintro _ w26 ⟨p21_1, p21_c1, p21_2, p21_c2, p21_3, p21_c3, rfl, hs22, hs23, hs24, hb25⟩
  replace hS := hS.call hb25
  replace hS := hS.addR hs22.rd
  replace hS := hS.addR hs23.rd
  replace hS := hS.addR hs24.rd
  refine ⟨_, rfl, (hS.partD (.cons _ (.cons_cons _ (.cons_cons _ .slnil))) 6 rfl (.refl _)), ?_⟩
  intro a hA
  refine any_one (by kernel_rfl) (op_call hA 5 rfl rfl rfl rfl (enters_func  rfl rfl (fun w => by kernel_rfl)) (zsum_any ⟨(hS.rd 5 rfl), hs16.nil, hs16.cap⟩ ⟨(hS.rd 4 rfl), hs17.nil, hs17.cap⟩ ⟨(hS.rd 3 rfl), hs18.nil, hs18.cap⟩ ⟨(hS.rd 2 rfl), hs22.nil, hs22.cap⟩ ⟨(hS.rd 1 rfl), hs23.nil, hs23.cap⟩ ⟨(hS.rd 0 rfl), hs24.nil, hs24.cap⟩ (Nat.le_trans (spX_len hu hv) (by decide)) (Nat.le_trans (spY_len hu hv) (by decide)) (Nat.le_trans (spD_len hu hv) (by decide)) (Nat.le_trans (spX_len hx hy) (by decide)) (Nat.le_trans (spY_len hx hy) (by decide)) (Nat.le_trans (spD_len hx hy) (by decide))) ?_)
  rintro _ w32 ⟨p27_1, p27_c1, p27_2, p27_c2, p27_3, p27_c3, rfl, hs28, hs29, hs30, hb31⟩
  replace hS := hS.call hb31
  replace hS := hS.addR hs28.rd
  replace hS := hS.addR hs29.rd
  replace hS := hS.addR hs30.rd
  refine ⟨_, rfl, (hS.partD (.cons _ (.cons_cons _ (.cons_cons _ .slnil))) 9 rfl (.refl _)), ?_⟩
  intro a hA
  refine any_one (by kernel_rfl) (op_call hA 6 rfl rfl rfl rfl (enters_func  rfl rfl (fun w => by kernel_rfl)) (zsettle_as ⟨(hS.rd 2 rfl), hs28.nil, hs28.cap⟩ ⟨(hS.rd 1 rfl), hs29.nil, hs29.cap⟩ ⟨(hS.rd 0 rfl), hs30.nil, hs30.cap⟩ (set_add (spD_ne u v) (spD_ne x y) (spX_mk u v) (spY_mk u v) (spX_mk x y) (spY_mk x y)) (Nat.le_trans (abs_add_len (abs_mul_len (spX_len hu hv) (nat_abs_len (spD_len hx hy))) (abs_mul_len (spX_len hx hy) (nat_abs_len (spD_len hu hv)))) (by decide)) (Nat.le_trans (abs_add_len (abs_mul_len (spY_len hu hv) (nat_abs_len (spD_len hx hy))) (abs_mul_len (spY_len hx hy) (nat_abs_len (spD_len hu hv)))) (by decide)) (Nat.le_trans (words_mul_length (spD_len hu hv) (spD_len hx hy)) (by decide)) (Nat.mul_ne_zero (spD_ne u v) (spD_ne x y))) ?_)
  rintro _ w36 ⟨p33_1, p33_c1, p33_2, p33_c2, p33_3, p33_c3, p33_4, p33_c4, rfl, hn34, hb35⟩
  replace hS := hS.call hb35
  replace hS := hS.addR hn34.s1.rd
  replace hS := hS.addR hn34.s2.rd
  replace hS := hS.addR hn34.s3.rd
  replace hS := hS.addR hn34.s4.rd
  refine ⟨_, rfl, (hS.partD (.cons _ (.cons_cons _ (.cons_cons _ .slnil))) 13 rfl (.refl _)), ?_⟩
  intro a hA
  refine any_take (v := .agg #[.bool ((ratS (u + x) (v + y)).1.b1), .slice p33_1 (((ratS (u + x) (v + y)).1.t1).length) p33_c1, .slice p33_2 (((ratS (u + x) (v + y)).1.q1).length) p33_c2, .bool ((ratS (u + x) (v + y)).1.b2), .slice p33_3 (((ratS (u + x) (v + y)).1.t2).length) p33_c3, .slice p33_4 (((ratS (u + x) (v + y)).1.q2).length) p33_c4]) hA 7 rfl rfl rfl rfl (by kernel_rfl) (by kernel_rfl) (by kernel_rfl) (fun c a w h => hP c a _ _ w h) (hS.partD (.cons _ (.cons_cons _ (.cons_cons _ .slnil))) 13 rfl (.refl _)) (fun w1 hS => does_extract (vs := [.agg #[.bool ((ratS (u + x) (v + y)).1.b1), .slice p33_1 (((ratS (u + x) (v + y)).1.t1).length) p33_c1, .slice p33_2 (((ratS (u + x) (v + y)).1.q1).length) p33_c2, .bool ((ratS (u + x) (v + y)).1.b2), .slice p33_3 (((ratS (u + x) (v + y)).1.t2).length) p33_c3, .slice p33_4 (((ratS (u + x) (v + y)).1.q2).length) p33_c4], .int .i64 ((ratS (u + x) (v + y)).2)]) rfl rfl) ?_
  intro a hA
  refine any_take (v := .int .i64 ((ratS (u + x) (v + y)).2)) hA 8 rfl rfl rfl rfl (by kernel_rfl) (by kernel_rfl) (by kernel_rfl) (fun c a w h => hP c a _ _ w h) (hS.partD (.cons _ (.cons_cons _ (.cons_cons _ .slnil))) 13 rfl (.refl _)) (fun w1 hS => does_extract (vs := [.agg #[.bool ((ratS (u + x) (v + y)).1.b1), .slice p33_1 (((ratS (u + x) (v + y)).1.t1).length) p33_c1, .slice p33_2 (((ratS (u + x) (v + y)).1.q1).length) p33_c2, .bool ((ratS (u + x) (v + y)).1.b2), .slice p33_3 (((ratS (u + x) (v + y)).1.t2).length) p33_c3, .slice p33_4 (((ratS (u + x) (v + y)).1.q2).length) p33_c4], .int .i64 ((ratS (u + x) (v + y)).2)]) rfl rfl) ?_
  intro a hA
  refine any_one (by kernel_rfl) (op_store (us := [.bool ((ratS (u + x) (v + y)).1.b1), .slice p33_1 (((ratS (u + x) (v + y)).1.t1).length) p33_c1, .slice p33_2 (((ratS (u + x) (v + y)).1.q1).length) p33_c2, .bool ((ratS (u + x) (v + y)).1.b2), .slice p33_3 (((ratS (u + x) (v + y)).1.t2).length) p33_c3, .slice p33_4 (((ratS (u + x) (v + y)).1.q2).length) p33_c4]) hA hS 9 rfl rfl rfl (sets_store (cs := [.bool ((ratS (u + x) (v + y)).1.b1), .slice p33_1 (((ratS (u + x) (v + y)).1.t1).length) p33_c1, .slice p33_2 (((ratS (u + x) (v + y)).1.q1).length) p33_c2, .bool ((ratS (u + x) (v + y)).1.b2), .slice p33_3 (((ratS (u + x) (v + y)).1.t2).length) p33_c3, .slice p33_4 (((ratS (u + x) (v + y)).1.q2).length) p33_c4]) rfl rfl rfl (by kernel_rfl) hS 0 rfl rfl rfl) 0 rfl rfl rfl rfl ?_)
  intro w37 hS
  refine ⟨(hS.partD (.cons _ (.cons_cons _ (.cons_cons _ .slnil))) 13 rfl (.refl _)), ?_⟩
  refine any_take hA 10 rfl rfl rfl rfl (by kernel_rfl) (by kernel_rfl) (by kernel_rfl) (fun c a w h => hP c a _ _ w h) (hS.partD (.cons _ (.cons_cons _ (.cons_cons _ .slnil))) 13 rfl (.refl _)) (fun w1 hS => does_assign rfl) ?_
  intro a hA
  refine any_end (by kernel_rfl) ?_
  refine hK14 _ _ ?_
  refine wp_ret ?_
  refine hret _ _ ?_
  refine ends (v := .tuple #[.agg #[.bool ((ratS (u + x) (v + y)).1.b1), .slice p33_1 (((ratS (u + x) (v + y)).1.t1).length) p33_c1, .slice p33_2 (((ratS (u + x) (v + y)).1.q1).length) p33_c2, .bool ((ratS (u + x) (v + y)).1.b2), .slice p33_3 (((ratS (u + x) (v + y)).1.t2).length) p33_c3, .slice p33_4 (((ratS (u + x) (v + y)).1.q2).length) p33_c4], .int .i64 ((ratS (u + x) (v + y)).2)]) hA rfl (.cons (res_cell hS ExL_isS_26 rfl 0 rfl (cs := [.bool ((ratS (u + x) (v + y)).1.b1), .slice p33_1 (((ratS (u + x) (v + y)).1.t1).length) p33_c1, .slice p33_2 (((ratS (u + x) (v + y)).1.q1).length) p33_c2, .bool ((ratS (u + x) (v + y)).1.b2), .slice p33_3 (((ratS (u + x) (v + y)).1.t2).length) p33_c3, .slice p33_4 (((ratS (u + x) (v + y)).1.q2).length) p33_c4]) rfl rfl) (.cons (res_tmp rfl) .nil)) rfl ?_
  exact ⟨p33_1, p33_c1, p33_2, p33_c2, p33_3, p33_c3, p33_4, p33_c4, rfl, ⟨⟨(hS.rd 3 rfl), hn34.s1.nil, hn34.s1.cap⟩, ⟨(hS.rd 2 rfl), hn34.s2.nil, hn34.s2.cap⟩, ⟨(hS.rd 1 rfl), hn34.s3.nil, hn34.s3.cap⟩, ⟨(hS.rd 0 rfl), hn34.s4.nil, hn34.s4.cap⟩⟩, hS.bel⟩
theorem reckonAQ_any {w : World} {p q : Q6} {a1 a2 a3 a4 : Option Addr} {ac1 ac2 ac3 ac4 : Nat} (ha : Nm w p a1 ac1 a2 ac2 a3 ac3 a4 ac4) (hl : LenQ p) {u1 u2 u3 u4 : Option Addr} {uc1 uc2 uc3 uc4 : Nat} (hb : Nm w q u1 uc1 u2 uc2 u3 uc3 u4 uc4) (hm : LenQ q) : Calls Tryz.prog 36 #[.func (.func 37) #[] #[], numV p a1 ac1 a2 ac2 a3 ac3 a4 ac4, numV q u1 uc1 u2 uc2 u3 uc3 u4 uc4] w (AnsN w (addQ p q)) := by
  rcases sound_cases ha with h1 | ⟨u, v, rfl, hu, hv⟩
  · rw [show addQ p q = (Q6.zero, 2) from if_neg (fun k => by rw [h1] at k; cases k.1)]
    exact reckonE1_any ha hl hb hm h1
  · rcases sound_cases hb with h2 | ⟨x, y, rfl, hx, hy⟩
    · rw [show addQ _ q = (Q6.zero, 2) from if_neg (fun k => by rw [h2] at k; cases k.2)]
      exact reckonE2_any ha hl hb hm (soundQ_rat hu hv) h2
    · rw [addQ_rat hu hv hx hy]
      exact reckonA_any ha hb hu hv hx hy
theorem addQ_any {w : World} {p q : Q6} {a1 a2 a3 a4 : Option Addr} {ac1 ac2 ac3 ac4 : Nat} (ha : Nm w p a1 ac1 a2 ac2 a3 ac3 a4 ac4) (hl : LenQ p) {u1 u2 u3 u4 : Option Addr} {uc1 uc2 uc3 uc4 : Nat} (hb : Nm w q u1 uc1 u2 uc2 u3 uc3 u4 uc4) (hm : LenQ q) : Calls Tryz.prog 8 #[numV p a1 ac1 a2 ac2 a3 ac3 a4 ac4, numV q u1 uc1 u2 uc2 u3 uc3 u4 uc4] w (AnsN w (addQ p q)) := by
  have hS : St w w [] [(u4, q.q2), (u3, q.t2), (u2, q.q1), (u1, q.t1), (a4, p.q2), (a3, p.t2), (a2, p.q1), (a1, p.t1)] [] := ((((((((St.start w).addR ha.s1.rd).addR ha.s2.rd).addR ha.s3.rd).addR ha.s4.rd).addR hb.s1.rd).addR hb.s2.rd).addR hb.s3.rd).addR hb.s4.rd
  refine walk_of (l := [(0, .agg #[.bool p.b1, .slice a1 p.t1.length ac1, .slice a2 p.q1.length ac2, .bool p.b2, .slice a3 p.t2.length ac3, .slice a4 p.q2.length ac4]), (1, .agg #[.bool q.b1, .slice u1 q.t1.length uc1, .slice u2 q.q1.length uc2, .bool q.b2, .slice u3 q.t2.length uc3, .slice u4 q.q2.length uc4])]) Tryz.func8 rfl Tryz.ntmps8 rfl rfl ?_
  intro Q hret hnorm hP a hA
  refine wp_seq_k (fun K1 hK1 => ?_)
  refine wp_region_lit ?_
  refine seq_new (vs := [.bool p.b1, .slice a1 p.t1.length ac1, .slice a2 p.q1.length ac2, .bool p.b2, .slice a3 p.t2.length ac3, .slice a4 p.q2.length ac4]) (t := 26) hA hS rfl rfl rfl (fun g => .pointer (some ⟨g, 0, none⟩)) (does_box rfl rfl) rfl ?_
  intro g2 w3 hS a hA
  refine seq_new (vs := [.bool q.b1, .slice u1 q.t1.length uc1, .slice u2 q.q1.length uc2, .bool q.b2, .slice u3 q.t2.length uc3, .slice u4 q.q2.length uc4]) (t := 26) hA hS rfl rfl rfl (fun g => .pointer (some ⟨g, 0, none⟩)) (does_box rfl rfl) rfl ?_
  intro g4 w5 hS a hA
  refine seq_new (vs := [.bool false, .slice none 0 0, .slice none 0 0, .bool false, .slice none 0 0, .slice none 0 0]) (t := 26) hA hS rfl rfl rfl (fun g => .pointer (some ⟨g, 0, none⟩)) (does_alloc (z := .agg #[.bool false, .slice none 0 0, .slice none 0 0, .bool false, .slice none 0 0, .slice none 0 0]) (by kernel_rfl) rfl) rfl ?_
  intro g6 w7 hS a hA
  refine seq_do hA rfl rfl rfl (does_assign rfl) ?_
  intro a hA
  refine seq_end ?_
  refine hK1 _ _ ?_
  refine wp_seq_k (fun K8 hK8 => ?_)
  refine wp_region_lit ?_
  refine seq_do (v := .agg #[.bool p.b1, .slice a1 p.t1.length ac1, .slice a2 p.q1.length ac2, .bool p.b2, .slice a3 p.t2.length ac3, .slice a4 p.q2.length ac4]) hA rfl rfl rfl (does_loadS hS ExL_isS_26 rfl 2 rfl (cs := [.bool p.b1, .slice a1 p.t1.length ac1, .slice a2 p.q1.length ac2, .bool p.b2, .slice a3 p.t2.length ac3, .slice a4 p.q2.length ac4]) rfl rfl) ?_
  intro a hA
  refine seq_do (v := .agg #[.bool q.b1, .slice u1 q.t1.length uc1, .slice u2 q.q1.length uc2, .bool q.b2, .slice u3 q.t2.length uc3, .slice u4 q.q2.length uc4]) hA rfl rfl rfl (does_loadS hS ExL_isS_26 rfl 1 rfl (cs := [.bool q.b1, .slice u1 q.t1.length uc1, .slice u2 q.q1.length uc2, .bool q.b2, .slice u3 q.t2.length uc3, .slice u4 q.q2.length uc4]) rfl rfl) ?_
  intro a hA
  refine seq_call hA rfl rfl rfl (enters_func  rfl rfl (fun w => by kernel_rfl)) (reckonAQ_any (show Nm _ p a1 ac1 a2 ac2 a3 ac3 a4 ac4 from ⟨⟨(hS.rd 7 rfl), ha.s1.nil, ha.s1.cap⟩, ⟨(hS.rd 6 rfl), ha.s2.nil, ha.s2.cap⟩, ⟨(hS.rd 5 rfl), ha.s3.nil, ha.s3.cap⟩, ⟨(hS.rd 4 rfl), ha.s4.nil, ha.s4.cap⟩⟩) hl (show Nm _ q u1 uc1 u2 uc2 u3 uc3 u4 uc4 from ⟨⟨(hS.rd 3 rfl), hb.s1.nil, hb.s1.cap⟩, ⟨(hS.rd 2 rfl), hb.s2.nil, hb.s2.cap⟩, ⟨(hS.rd 1 rfl), hb.s3.nil, hb.s3.cap⟩, ⟨(hS.rd 0 rfl), hb.s4.nil, hb.s4.cap⟩⟩) hm) ?_
  rintro _ w12 ⟨p9_1, p9_c1, p9_2, p9_c2, p9_3, p9_c3, p9_4, p9_c4, rfl, hn10, hb11⟩
  replace hS := hS.call hb11
  replace hS := hS.addR hn10.s1.rd
  replace hS := hS.addR hn10.s2.rd
  replace hS := hS.addR hn10.s3.rd
  replace hS := hS.addR hn10.s4.rd
  refine ⟨_, rfl, ?_⟩
  intro a hA
  refine seq_do (v := .agg #[.bool ((addQ p q).1.b1), .slice p9_1 (((addQ p q).1.t1).length) p9_c1, .slice p9_2 (((addQ p q).1.q1).length) p9_c2, .bool ((addQ p q).1.b2), .slice p9_3 (((addQ p q).1.t2).length) p9_c3, .slice p9_4 (((addQ p q).1.q2).length) p9_c4]) hA rfl rfl rfl (does_extract (vs := [.agg #[.bool ((addQ p q).1.b1), .slice p9_1 (((addQ p q).1.t1).length) p9_c1, .slice p9_2 (((addQ p q).1.q1).length) p9_c2, .bool ((addQ p q).1.b2), .slice p9_3 (((addQ p q).1.t2).length) p9_c3, .slice p9_4 (((addQ p q).1.q2).length) p9_c4], .int .i64 ((addQ p q).2)]) rfl rfl) ?_
  intro a hA
  refine seq_do (v := .int .i64 ((addQ p q).2)) hA rfl rfl rfl (does_extract (vs := [.agg #[.bool ((addQ p q).1.b1), .slice p9_1 (((addQ p q).1.t1).length) p9_c1, .slice p9_2 (((addQ p q).1.q1).length) p9_c2, .bool ((addQ p q).1.b2), .slice p9_3 (((addQ p q).1.t2).length) p9_c3, .slice p9_4 (((addQ p q).1.q2).length) p9_c4], .int .i64 ((addQ p q).2)]) rfl rfl) ?_
  intro a hA
  refine seq_store (us := [.bool ((addQ p q).1.b1), .slice p9_1 (((addQ p q).1.t1).length) p9_c1, .slice p9_2 (((addQ p q).1.q1).length) p9_c2, .bool ((addQ p q).1.b2), .slice p9_3 (((addQ p q).1.t2).length) p9_c3, .slice p9_4 (((addQ p q).1.q2).length) p9_c4]) hA hS rfl rfl (sets_store (cs := [.bool ((addQ p q).1.b1), .slice p9_1 (((addQ p q).1.t1).length) p9_c1, .slice p9_2 (((addQ p q).1.q1).length) p9_c2, .bool ((addQ p q).1.b2), .slice p9_3 (((addQ p q).1.t2).length) p9_c3, .slice p9_4 (((addQ p q).1.q2).length) p9_c4]) rfl rfl rfl (by kernel_rfl) hS 0 rfl rfl rfl) 0 rfl rfl rfl rfl ?_
  intro w13 hS
  refine seq_do hA rfl rfl rfl (does_assign rfl) ?_
  intro a hA
  refine seq_end ?_
  refine hK8 _ _ ?_
  refine wp_ret ?_
  refine hret _ _ ?_
  refine ends (v := .tuple #[.agg #[.bool ((addQ p q).1.b1), .slice p9_1 (((addQ p q).1.t1).length) p9_c1, .slice p9_2 (((addQ p q).1.q1).length) p9_c2, .bool ((addQ p q).1.b2), .slice p9_3 (((addQ p q).1.t2).length) p9_c3, .slice p9_4 (((addQ p q).1.q2).length) p9_c4], .int .i64 ((addQ p q).2)]) hA rfl (.cons (res_cell hS ExL_isS_26 rfl 0 rfl (cs := [.bool ((addQ p q).1.b1), .slice p9_1 (((addQ p q).1.t1).length) p9_c1, .slice p9_2 (((addQ p q).1.q1).length) p9_c2, .bool ((addQ p q).1.b2), .slice p9_3 (((addQ p q).1.t2).length) p9_c3, .slice p9_4 (((addQ p q).1.q2).length) p9_c4]) rfl rfl) (.cons (res_tmp rfl) .nil)) rfl ?_
  exact ⟨p9_1, p9_c1, p9_2, p9_c2, p9_3, p9_c3, p9_4, p9_c4, rfl, ⟨⟨(hS.rd 3 rfl), hn10.s1.nil, hn10.s1.cap⟩, ⟨(hS.rd 2 rfl), hn10.s2.nil, hn10.s2.cap⟩, ⟨(hS.rd 1 rfl), hn10.s3.nil, hn10.s3.cap⟩, ⟨(hS.rd 0 rfl), hn10.s4.nil, hn10.s4.cap⟩⟩, hS.bel⟩
theorem reckonS_any {w : World} {u v x y : Rat} {a1 a2 a3 a4 : Option Addr} {ac1 ac2 ac3 ac4 : Nat} (ha : Nm w (Q6.rat u v) a1 ac1 a2 ac2 a3 ac3 a4 ac4) {u1 u2 u3 u4 : Option Addr} {uc1 uc2 uc3 uc4 : Nat} (hb : Nm w (Q6.rat x y) u1 uc1 u2 uc2 u3 uc3 u4 uc4) (hu : fitR u) (hv : fitR v) (hx : fitR x) (hy : fitR y) : Calls Tryz.prog 36 #[.func (.func 40) #[] #[], numV (Q6.rat u v) a1 ac1 a2 ac2 a3 ac3 a4 ac4, numV (Q6.rat x y) u1 uc1 u2 uc2 u3 uc3 u4 uc4] w (AnsN w (ratS (u - x) (v - y))) := by
  have hS : St w w [] [(u4, words y.den), (u3, words y.num.natAbs), (u2, words x.den), (u1, words x.num.natAbs), (a4, words v.den), (a3, words v.num.natAbs), (a2, words u.den), (a1, words u.num.natAbs)] [] := ((((((((St.start w).addR ha.s1.rd).addR ha.s2.rd).addR ha.s3.rd).addR ha.s4.rd).addR hb.s1.rd).addR hb.s2.rd).addR hb.s3.rd).addR hb.s4.rd
  refine walk_of (l := [(0, .func (.func 40) #[] #[]), (1, .agg #[.bool (rb u.num), .slice a1 ((words u.num.natAbs).length) ac1, .slice a2 ((words u.den).length) ac2, .bool (rb v.num), .slice a3 ((words v.num.natAbs).length) ac3, .slice a4 ((words v.den).length) ac4]), (2, .agg #[.bool (rb x.num), .slice u1 ((words x.num.natAbs).length) uc1, .slice u2 ((words x.den).length) uc2, .bool (rb y.num), .slice u3 ((words y.num.natAbs).length) uc3, .slice u4 ((words y.den).length) uc4])]) Tryz.func36 rfl Tryz.ntmps36 rfl rfl ?_
  intro Q hret hnorm hP a hA
  refine wp_seq_k (fun K1 hK1 => ?_)
  refine wp_region_lit ?_
  refine seq_new (vs := [.bool (rb u.num), .slice a1 ((words u.num.natAbs).length) ac1, .slice a2 ((words u.den).length) ac2, .bool (rb v.num), .slice a3 ((words v.num.natAbs).length) ac3, .slice a4 ((words v.den).length) ac4]) (t := 26) hA hS rfl rfl rfl (fun g => .pointer (some ⟨g, 0, none⟩)) (does_box rfl rfl) rfl ?_
  intro g2 w3 hS a hA
  refine seq_new (vs := [.bool (rb x.num), .slice u1 ((words x.num.natAbs).length) uc1, .slice u2 ((words x.den).length) uc2, .bool (rb y.num), .slice u3 ((words y.num.natAbs).length) uc3, .slice u4 ((words y.den).length) uc4]) (t := 26) hA hS rfl rfl rfl (fun g => .pointer (some ⟨g, 0, none⟩)) (does_box rfl rfl) rfl ?_
  intro g4 w5 hS a hA
  refine seq_new (vs := [.bool false, .slice none 0 0, .slice none 0 0, .bool false, .slice none 0 0, .slice none 0 0]) (t := 26) hA hS rfl rfl rfl (fun g => .pointer (some ⟨g, 0, none⟩)) (does_alloc (z := .agg #[.bool false, .slice none 0 0, .slice none 0 0, .bool false, .slice none 0 0, .slice none 0 0]) (by kernel_rfl) rfl) rfl ?_
  intro g6 w7 hS a hA
  refine seq_do hA rfl rfl rfl (does_assign rfl) ?_
  intro a hA
  refine seq_end ?_
  refine hK1 _ _ ?_
  refine wp_seq_k (fun K8 hK8 => ?_)
  refine wp_seq_k (fun K9 hK9 => ?_)
  refine wp_region_lit ?_
  refine seq_do (v := .agg #[.bool (rb u.num), .slice a1 ((words u.num.natAbs).length) ac1, .slice a2 ((words u.den).length) ac2, .bool (rb v.num), .slice a3 ((words v.num.natAbs).length) ac3, .slice a4 ((words v.den).length) ac4]) hA rfl rfl rfl (does_loadS hS ExL_isS_26 rfl 2 rfl (cs := [.bool (rb u.num), .slice a1 ((words u.num.natAbs).length) ac1, .slice a2 ((words u.den).length) ac2, .bool (rb v.num), .slice a3 ((words v.num.natAbs).length) ac3, .slice a4 ((words v.den).length) ac4]) rfl rfl) ?_
  intro a hA
  refine seq_call hA rfl rfl rfl (enters_func  rfl rfl (fun w => by kernel_rfl)) (soundQ_any (show Nm _ (Q6.rat u v) a1 ac1 a2 ac2 a3 ac3 a4 ac4 from ⟨⟨(hS.rd 7 rfl), ha.s1.nil, ha.s1.cap⟩, ⟨(hS.rd 6 rfl), ha.s2.nil, ha.s2.cap⟩, ⟨(hS.rd 5 rfl), ha.s3.nil, ha.s3.cap⟩, ⟨(hS.rd 4 rfl), ha.s4.nil, ha.s4.cap⟩⟩) (lenQ_rat hu hv) (soundQ_rat hu hv)) ?_
  rintro _ w11 ⟨rfl, hb10⟩
  replace hS := hS.call hb10
  refine ⟨_, rfl, ?_⟩
  intro a hA
  refine seq_do (v := .bool false) hA rfl rfl rfl (does_un rfl un_not) ?_
  intro a hA
  refine seq_do hA rfl rfl rfl (does_move rfl) ?_
  intro a hA
  refine seq_do (v := .agg #[.bool (rb x.num), .slice u1 ((words x.num.natAbs).length) uc1, .slice u2 ((words x.den).length) uc2, .bool (rb y.num), .slice u3 ((words y.num.natAbs).length) uc3, .slice u4 ((words y.den).length) uc4]) hA rfl rfl rfl (does_loadS hS ExL_isS_26 rfl 1 rfl (cs := [.bool (rb x.num), .slice u1 ((words x.num.natAbs).length) uc1, .slice u2 ((words x.den).length) uc2, .bool (rb y.num), .slice u3 ((words y.num.natAbs).length) uc3, .slice u4 ((words y.den).length) uc4]) rfl rfl) ?_
  intro a hA
  refine seq_call hA rfl rfl rfl (enters_func  rfl rfl (fun w => by kernel_rfl)) (soundQ_any (show Nm _ (Q6.rat x y) u1 uc1 u2 uc2 u3 uc3 u4 uc4 from ⟨⟨(hS.rd 3 rfl), hb.s1.nil, hb.s1.cap⟩, ⟨(hS.rd 2 rfl), hb.s2.nil, hb.s2.cap⟩, ⟨(hS.rd 1 rfl), hb.s3.nil, hb.s3.cap⟩, ⟨(hS.rd 0 rfl), hb.s4.nil, hb.s4.cap⟩⟩) (lenQ_rat hx hy) (soundQ_rat hx hy)) ?_
  rintro _ w13 ⟨rfl, hb12⟩
  replace hS := hS.call hb12
  refine ⟨_, rfl, ?_⟩
  intro a hA
  refine seq_do (v := .bool false) hA rfl rfl rfl (does_un rfl un_not) ?_
  intro a hA
  refine seq_do (v := .bool false) hA rfl rfl rfl (does_pick rfl rfl rfl rfl) ?_
  intro a hA
  refine seq_end ?_
  refine hK9 _ _ ?_
  refine wp_cond_false (hA.ev rfl) ?_
  refine wp_skip ?_
  refine hK8 _ _ ?_
  refine wp_seq_k (fun K14 hK14 => ?_)
  refine wp_draw (S := fun w1 => St w w1 [(g4, [.bool (rb x.num), .slice u1 ((words x.num.natAbs).length) uc1, .slice u2 ((words x.den).length) uc2, .bool (rb y.num), .slice u3 ((words y.num.natAbs).length) uc3, .slice u4 ((words y.den).length) uc4]), (g2, [.bool (rb u.num), .slice a1 ((words u.num.natAbs).length) ac1, .slice a2 ((words u.den).length) ac2, .bool (rb v.num), .slice a3 ((words v.num.natAbs).length) ac3, .slice a4 ((words v.den).length) ac4])] [(u4, words y.den), (u3, words y.num.natAbs), (u2, words x.den), (u1, words x.num.natAbs), (a4, words v.den), (a3, words v.num.natAbs), (a2, words u.den), (a1, words u.num.natAbs)] []) (by kernel_rfl) ?_
  replace hS := hS.drew
  refine any_take hA 0 rfl rfl rfl rfl (by kernel_rfl) (by kernel_rfl) (by kernel_rfl) (fun c a w h => hP c a _ _ w h) (hS.partD (.cons _ (.cons_cons _ (.cons_cons _ .slnil))) 0 rfl (.refl _)) (fun w1 hS => does_move rfl) ?_
  intro a hA
  refine any_take (v := .agg #[.bool (rb u.num), .slice a1 ((words u.num.natAbs).length) ac1, .slice a2 ((words u.den).length) ac2, .bool (rb v.num), .slice a3 ((words v.num.natAbs).length) ac3, .slice a4 ((words v.den).length) ac4]) hA 1 rfl rfl rfl rfl (by kernel_rfl) (by kernel_rfl) (by kernel_rfl) (fun c a w h => hP c a _ _ w h) (hS.partD (.cons _ (.cons_cons _ (.cons_cons _ .slnil))) 0 rfl (.refl _)) (fun w1 hS => does_loadS hS ExL_isS_26 rfl 1 rfl (cs := [.bool (rb u.num), .slice a1 ((words u.num.natAbs).length) ac1, .slice a2 ((words u.den).length) ac2, .bool (rb v.num), .slice a3 ((words v.num.natAbs).length) ac3, .slice a4 ((words v.den).length) ac4]) rfl rfl) ?_
  intro a hA
  refine any_take (v := .agg #[.bool (rb x.num), .slice u1 ((words x.num.natAbs).length) uc1, .slice u2 ((words x.den).length) uc2, .bool (rb y.num), .slice u3 ((words y.num.natAbs).length) uc3, .slice u4 ((words y.den).length) uc4]) hA 3 rfl rfl rfl rfl (by kernel_rfl) (by kernel_rfl) (by kernel_rfl) (fun c a w h => hP c a _ _ w h) (hS.partD (.cons _ (.cons_cons _ (.cons_cons _ .slnil))) 0 rfl (.refl _)) (fun w1 hS => does_loadS hS ExL_isS_26 rfl 0 rfl (cs := [.bool (rb x.num), .slice u1 ((words x.num.natAbs).length) uc1, .slice u2 ((words x.den).length) uc2, .bool (rb y.num), .slice u3 ((words y.num.natAbs).length) uc3, .slice u4 ((words y.den).length) uc4]) rfl rfl) ?_
  intro a hA
  refine any_one (by kernel_rfl) (op_call hA 2 rfl rfl rfl rfl (enters_func  rfl rfl (fun w => by kernel_rfl)) (zspread_any (show Nm _ (Q6.rat u v) a1 ac1 a2 ac2 a3 ac3 a4 ac4 from ⟨⟨(hS.rd 7 rfl), ha.s1.nil, ha.s1.cap⟩, ⟨(hS.rd 6 rfl), ha.s2.nil, ha.s2.cap⟩, ⟨(hS.rd 5 rfl), ha.s3.nil, ha.s3.cap⟩, ⟨(hS.rd 4 rfl), ha.s4.nil, ha.s4.cap⟩⟩) hu hv) ?_)
  rintro _ w20 ⟨p15_1, p15_c1, p15_2, p15_c2, p15_3, p15_c3, rfl, hs16, hs17, hs18, hb19⟩
  replace hS := hS.call hb19
  replace hS := hS.addR hs16.rd
  replace hS := hS.addR hs17.rd
  replace hS := hS.addR hs18.rd
  refine ⟨_, rfl, (hS.partD (.cons _ (.cons_cons _ (.cons_cons _ .slnil))) 3 rfl (.refl _)), ?_⟩
  intro a hA
  refine any_one (by kernel_rfl) (op_call hA 4 rfl rfl rfl rfl (enters_func  rfl rfl (fun w => by kernel_rfl)) (zspread_any (show Nm _ (Q6.rat x y) u1 uc1 u2 uc2 u3 uc3 u4 uc4 from ⟨⟨(hS.rd 6 rfl), hb.s1.nil, hb.s1.cap⟩, ⟨(hS.rd 5 rfl), hb.s2.nil, hb.s2.cap⟩, ⟨(hS.rd 4 rfl), hb.s3.nil, hb.s3.cap⟩, ⟨(hS.rd 3 rfl), hb.s4.nil, hb.s4.cap⟩⟩) hx hy) ?_)
  rintro _ w26 ⟨p21_1, p21_c1, p21_2, p21_c2, p21_3, p21_c3, rfl, hs22, hs23, hs24, hb25⟩
  replace hS := hS.call hb25
  replace hS := hS.addR hs22.rd
  replace hS := hS.addR hs23.rd
  replace hS := hS.addR hs24.rd
  refine ⟨_, rfl, (hS.partD (.cons _ (.cons_cons _ (.cons_cons _ .slnil))) 6 rfl (.refl _)), ?_⟩
  intro a hA
  refine any_one (by kernel_rfl) (op_call hA 5 rfl rfl rfl rfl (enters_func  rfl rfl (fun w => by kernel_rfl)) (zdiff_any ⟨(hS.rd 5 rfl), hs16.nil, hs16.cap⟩ ⟨(hS.rd 4 rfl), hs17.nil, hs17.cap⟩ ⟨(hS.rd 3 rfl), hs18.nil, hs18.cap⟩ ⟨(hS.rd 2 rfl), hs22.nil, hs22.cap⟩ ⟨(hS.rd 1 rfl), hs23.nil, hs23.cap⟩ ⟨(hS.rd 0 rfl), hs24.nil, hs24.cap⟩ (Nat.le_trans (spX_len hu hv) (by decide)) (Nat.le_trans (spY_len hu hv) (by decide)) (Nat.le_trans (spD_len hu hv) (by decide)) (Nat.le_trans (spX_len hx hy) (by decide)) (Nat.le_trans (spY_len hx hy) (by decide)) (Nat.le_trans (spD_len hx hy) (by decide))) ?_)
  rintro _ w32 ⟨p27_1, p27_c1, p27_2, p27_c2, p27_3, p27_c3, rfl, hs28, hs29, hs30, hb31⟩
  replace hS := hS.call hb31
  replace hS := hS.addR hs28.rd
  replace hS := hS.addR hs29.rd
  replace hS := hS.addR hs30.rd
  refine ⟨_, rfl, (hS.partD (.cons _ (.cons_cons _ (.cons_cons _ .slnil))) 9 rfl (.refl _)), ?_⟩
  intro a hA
  refine any_one (by kernel_rfl) (op_call hA 6 rfl rfl rfl rfl (enters_func  rfl rfl (fun w => by kernel_rfl)) (zsettle_as ⟨(hS.rd 2 rfl), hs28.nil, hs28.cap⟩ ⟨(hS.rd 1 rfl), hs29.nil, hs29.cap⟩ ⟨(hS.rd 0 rfl), hs30.nil, hs30.cap⟩ (set_sub (spD_ne u v) (spD_ne x y) (spX_mk u v) (spY_mk u v) (spX_mk x y) (spY_mk x y)) (Nat.le_trans (abs_add_len (abs_mul_len (spX_len hu hv) (nat_abs_len (spD_len hx hy))) (abs_mul_len (neg_len (spX_len hx hy)) (nat_abs_len (spD_len hu hv)))) (by decide)) (Nat.le_trans (abs_add_len (abs_mul_len (spY_len hu hv) (nat_abs_len (spD_len hx hy))) (abs_mul_len (neg_len (spY_len hx hy)) (nat_abs_len (spD_len hu hv)))) (by decide)) (Nat.le_trans (words_mul_length (spD_len hu hv) (spD_len hx hy)) (by decide)) (Nat.mul_ne_zero (spD_ne u v) (spD_ne x y))) ?_)
  rintro _ w36 ⟨p33_1, p33_c1, p33_2, p33_c2, p33_3, p33_c3, p33_4, p33_c4, rfl, hn34, hb35⟩
  replace hS := hS.call hb35
  replace hS := hS.addR hn34.s1.rd
  replace hS := hS.addR hn34.s2.rd
  replace hS := hS.addR hn34.s3.rd
  replace hS := hS.addR hn34.s4.rd
  refine ⟨_, rfl, (hS.partD (.cons _ (.cons_cons _ (.cons_cons _ .slnil))) 13 rfl (.refl _)), ?_⟩
  intro a hA
  refine any_take (v := .agg #[.bool ((ratS (u - x) (v - y)).1.b1), .slice p33_1 (((ratS (u - x) (v - y)).1.t1).length) p33_c1, .slice p33_2 (((ratS (u - x) (v - y)).1.q1).length) p33_c2, .bool ((ratS (u - x) (v - y)).1.b2), .slice p33_3 (((ratS (u - x) (v - y)).1.t2).length) p33_c3, .slice p33_4 (((ratS (u - x) (v - y)).1.q2).length) p33_c4]) hA 7 rfl rfl rfl rfl (by kernel_rfl) (by kernel_rfl) (by kernel_rfl) (fun c a w h => hP c a _ _ w h) (hS.partD (.cons _ (.cons_cons _ (.cons_cons _ .slnil))) 13 rfl (.refl _)) (fun w1 hS => does_extract (vs := [.agg #[.bool ((ratS (u - x) (v - y)).1.b1), .slice p33_1 (((ratS (u - x) (v - y)).1.t1).length) p33_c1, .slice p33_2 (((ratS (u - x) (v - y)).1.q1).length) p33_c2, .bool ((ratS (u - x) (v - y)).1.b2), .slice p33_3 (((ratS (u - x) (v - y)).1.t2).length) p33_c3, .slice p33_4 (((ratS (u - x) (v - y)).1.q2).length) p33_c4], .int .i64 ((ratS (u - x) (v - y)).2)]) rfl rfl) ?_
  intro a hA
  refine any_take (v := .int .i64 ((ratS (u - x) (v - y)).2)) hA 8 rfl rfl rfl rfl (by kernel_rfl) (by kernel_rfl) (by kernel_rfl) (fun c a w h => hP c a _ _ w h) (hS.partD (.cons _ (.cons_cons _ (.cons_cons _ .slnil))) 13 rfl (.refl _)) (fun w1 hS => does_extract (vs := [.agg #[.bool ((ratS (u - x) (v - y)).1.b1), .slice p33_1 (((ratS (u - x) (v - y)).1.t1).length) p33_c1, .slice p33_2 (((ratS (u - x) (v - y)).1.q1).length) p33_c2, .bool ((ratS (u - x) (v - y)).1.b2), .slice p33_3 (((ratS (u - x) (v - y)).1.t2).length) p33_c3, .slice p33_4 (((ratS (u - x) (v - y)).1.q2).length) p33_c4], .int .i64 ((ratS (u - x) (v - y)).2)]) rfl rfl) ?_
  intro a hA
  refine any_one (by kernel_rfl) (op_store (us := [.bool ((ratS (u - x) (v - y)).1.b1), .slice p33_1 (((ratS (u - x) (v - y)).1.t1).length) p33_c1, .slice p33_2 (((ratS (u - x) (v - y)).1.q1).length) p33_c2, .bool ((ratS (u - x) (v - y)).1.b2), .slice p33_3 (((ratS (u - x) (v - y)).1.t2).length) p33_c3, .slice p33_4 (((ratS (u - x) (v - y)).1.q2).length) p33_c4]) hA hS 9 rfl rfl rfl (sets_store (cs := [.bool ((ratS (u - x) (v - y)).1.b1), .slice p33_1 (((ratS (u - x) (v - y)).1.t1).length) p33_c1, .slice p33_2 (((ratS (u - x) (v - y)).1.q1).length) p33_c2, .bool ((ratS (u - x) (v - y)).1.b2), .slice p33_3 (((ratS (u - x) (v - y)).1.t2).length) p33_c3, .slice p33_4 (((ratS (u - x) (v - y)).1.q2).length) p33_c4]) rfl rfl rfl (by kernel_rfl) hS 0 rfl rfl rfl) 0 rfl rfl rfl rfl ?_)
  intro w37 hS
  refine ⟨(hS.partD (.cons _ (.cons_cons _ (.cons_cons _ .slnil))) 13 rfl (.refl _)), ?_⟩
  refine any_take hA 10 rfl rfl rfl rfl (by kernel_rfl) (by kernel_rfl) (by kernel_rfl) (fun c a w h => hP c a _ _ w h) (hS.partD (.cons _ (.cons_cons _ (.cons_cons _ .slnil))) 13 rfl (.refl _)) (fun w1 hS => does_assign rfl) ?_
  intro a hA
  refine any_end (by kernel_rfl) ?_
  refine hK14 _ _ ?_
  refine wp_ret ?_
  refine hret _ _ ?_
  refine ends (v := .tuple #[.agg #[.bool ((ratS (u - x) (v - y)).1.b1), .slice p33_1 (((ratS (u - x) (v - y)).1.t1).length) p33_c1, .slice p33_2 (((ratS (u - x) (v - y)).1.q1).length) p33_c2, .bool ((ratS (u - x) (v - y)).1.b2), .slice p33_3 (((ratS (u - x) (v - y)).1.t2).length) p33_c3, .slice p33_4 (((ratS (u - x) (v - y)).1.q2).length) p33_c4], .int .i64 ((ratS (u - x) (v - y)).2)]) hA rfl (.cons (res_cell hS ExL_isS_26 rfl 0 rfl (cs := [.bool ((ratS (u - x) (v - y)).1.b1), .slice p33_1 (((ratS (u - x) (v - y)).1.t1).length) p33_c1, .slice p33_2 (((ratS (u - x) (v - y)).1.q1).length) p33_c2, .bool ((ratS (u - x) (v - y)).1.b2), .slice p33_3 (((ratS (u - x) (v - y)).1.t2).length) p33_c3, .slice p33_4 (((ratS (u - x) (v - y)).1.q2).length) p33_c4]) rfl rfl) (.cons (res_tmp rfl) .nil)) rfl ?_
  exact ⟨p33_1, p33_c1, p33_2, p33_c2, p33_3, p33_c3, p33_4, p33_c4, rfl, ⟨⟨(hS.rd 3 rfl), hn34.s1.nil, hn34.s1.cap⟩, ⟨(hS.rd 2 rfl), hn34.s2.nil, hn34.s2.cap⟩, ⟨(hS.rd 1 rfl), hn34.s3.nil, hn34.s3.cap⟩, ⟨(hS.rd 0 rfl), hn34.s4.nil, hn34.s4.cap⟩⟩, hS.bel⟩
theorem reckonSQ_any {w : World} {p q : Q6} {a1 a2 a3 a4 : Option Addr} {ac1 ac2 ac3 ac4 : Nat} (ha : Nm w p a1 ac1 a2 ac2 a3 ac3 a4 ac4) (hl : LenQ p) {u1 u2 u3 u4 : Option Addr} {uc1 uc2 uc3 uc4 : Nat} (hb : Nm w q u1 uc1 u2 uc2 u3 uc3 u4 uc4) (hm : LenQ q) : Calls Tryz.prog 36 #[.func (.func 40) #[] #[], numV p a1 ac1 a2 ac2 a3 ac3 a4 ac4, numV q u1 uc1 u2 uc2 u3 uc3 u4 uc4] w (AnsN w (subQ p q)) := by
  rcases sound_cases ha with h1 | ⟨u, v, rfl, hu, hv⟩
  · rw [show subQ p q = (Q6.zero, 2) from if_neg (fun k => by rw [h1] at k; cases k.1)]
    exact reckonE1_any ha hl hb hm h1
  · rcases sound_cases hb with h2 | ⟨x, y, rfl, hx, hy⟩
    · rw [show subQ _ q = (Q6.zero, 2) from if_neg (fun k => by rw [h2] at k; cases k.2)]
      exact reckonE2_any ha hl hb hm (soundQ_rat hu hv) h2
    · rw [subQ_rat hu hv hx hy]
      exact reckonS_any ha hb hu hv hx hy
theorem subQ_any {w : World} {p q : Q6} {a1 a2 a3 a4 : Option Addr} {ac1 ac2 ac3 ac4 : Nat} (ha : Nm w p a1 ac1 a2 ac2 a3 ac3 a4 ac4) (hl : LenQ p) {u1 u2 u3 u4 : Option Addr} {uc1 uc2 uc3 uc4 : Nat} (hb : Nm w q u1 uc1 u2 uc2 u3 uc3 u4 uc4) (hm : LenQ q) : Calls Tryz.prog 10 #[numV p a1 ac1 a2 ac2 a3 ac3 a4 ac4, numV q u1 uc1 u2 uc2 u3 uc3 u4 uc4] w (AnsN w (subQ p q)) := by
  have hS : St w w [] [(u4, q.q2), (u3, q.t2), (u2, q.q1), (u1, q.t1), (a4, p.q2), (a3, p.t2), (a2, p.q1), (a1, p.t1)] [] := ((((((((St.start w).addR ha.s1.rd).addR ha.s2.rd).addR ha.s3.rd).addR ha.s4.rd).addR hb.s1.rd).addR hb.s2.rd).addR hb.s3.rd).addR hb.s4.rd
  refine walk_of (l := [(0, .agg #[.bool p.b1, .slice a1 p.t1.length ac1, .slice a2 p.q1.length ac2, .bool p.b2, .slice a3 p.t2.length ac3, .slice a4 p.q2.length ac4]), (1, .agg #[.bool q.b1, .slice u1 q.t1.length uc1, .slice u2 q.q1.length uc2, .bool q.b2, .slice u3 q.t2.length uc3, .slice u4 q.q2.length uc4])]) Tryz.func10 rfl Tryz.ntmps10 rfl rfl ?_
  intro Q hret hnorm hP a hA
  refine wp_seq_k (fun K1 hK1 => ?_)
  refine wp_region_lit ?_
  refine seq_new (vs := [.bool p.b1, .slice a1 p.t1.length ac1, .slice a2 p.q1.length ac2, .bool p.b2, .slice a3 p.t2.length ac3, .slice a4 p.q2.length ac4]) (t := 26) hA hS rfl rfl rfl (fun g => .pointer (some ⟨g, 0, none⟩)) (does_box rfl rfl) rfl ?_
  intro g2 w3 hS a hA
  refine seq_new (vs := [.bool q.b1, .slice u1 q.t1.length uc1, .slice u2 q.q1.length uc2, .bool q.b2, .slice u3 q.t2.length uc3, .slice u4 q.q2.length uc4]) (t := 26) hA hS rfl rfl rfl (fun g => .pointer (some ⟨g, 0, none⟩)) (does_box rfl rfl) rfl ?_
  intro g4 w5 hS a hA
  refine seq_new (vs := [.bool false, .slice none 0 0, .slice none 0 0, .bool false, .slice none 0 0, .slice none 0 0]) (t := 26) hA hS rfl rfl rfl (fun g => .pointer (some ⟨g, 0, none⟩)) (does_alloc (z := .agg #[.bool false, .slice none 0 0, .slice none 0 0, .bool false, .slice none 0 0, .slice none 0 0]) (by kernel_rfl) rfl) rfl ?_
  intro g6 w7 hS a hA
  refine seq_do hA rfl rfl rfl (does_assign rfl) ?_
  intro a hA
  refine seq_end ?_
  refine hK1 _ _ ?_
  refine wp_seq_k (fun K8 hK8 => ?_)
  refine wp_region_lit ?_
  refine seq_do (v := .agg #[.bool p.b1, .slice a1 p.t1.length ac1, .slice a2 p.q1.length ac2, .bool p.b2, .slice a3 p.t2.length ac3, .slice a4 p.q2.length ac4]) hA rfl rfl rfl (does_loadS hS ExL_isS_26 rfl 2 rfl (cs := [.bool p.b1, .slice a1 p.t1.length ac1, .slice a2 p.q1.length ac2, .bool p.b2, .slice a3 p.t2.length ac3, .slice a4 p.q2.length ac4]) rfl rfl) ?_
  intro a hA
  refine seq_do (v := .agg #[.bool q.b1, .slice u1 q.t1.length uc1, .slice u2 q.q1.length uc2, .bool q.b2, .slice u3 q.t2.length uc3, .slice u4 q.q2.length uc4]) hA rfl rfl rfl (does_loadS hS ExL_isS_26 rfl 1 rfl (cs := [.bool q.b1, .slice u1 q.t1.length uc1, .slice u2 q.q1.length uc2, .bool q.b2, .slice u3 q.t2.length uc3, .slice u4 q.q2.length uc4]) rfl rfl) ?_
  intro a hA
  refine seq_call hA rfl rfl rfl (enters_func  rfl rfl (fun w => by kernel_rfl)) (reckonSQ_any (show Nm _ p a1 ac1 a2 ac2 a3 ac3 a4 ac4 from ⟨⟨(hS.rd 7 rfl), ha.s1.nil, ha.s1.cap⟩, ⟨(hS.rd 6 rfl), ha.s2.nil, ha.s2.cap⟩, ⟨(hS.rd 5 rfl), ha.s3.nil, ha.s3.cap⟩, ⟨(hS.rd 4 rfl), ha.s4.nil, ha.s4.cap⟩⟩) hl (show Nm _ q u1 uc1 u2 uc2 u3 uc3 u4 uc4 from ⟨⟨(hS.rd 3 rfl), hb.s1.nil, hb.s1.cap⟩, ⟨(hS.rd 2 rfl), hb.s2.nil, hb.s2.cap⟩, ⟨(hS.rd 1 rfl), hb.s3.nil, hb.s3.cap⟩, ⟨(hS.rd 0 rfl), hb.s4.nil, hb.s4.cap⟩⟩) hm) ?_
  rintro _ w12 ⟨p9_1, p9_c1, p9_2, p9_c2, p9_3, p9_c3, p9_4, p9_c4, rfl, hn10, hb11⟩
  replace hS := hS.call hb11
  replace hS := hS.addR hn10.s1.rd
  replace hS := hS.addR hn10.s2.rd
  replace hS := hS.addR hn10.s3.rd
  replace hS := hS.addR hn10.s4.rd
  refine ⟨_, rfl, ?_⟩
  intro a hA
  refine seq_do (v := .agg #[.bool ((subQ p q).1.b1), .slice p9_1 (((subQ p q).1.t1).length) p9_c1, .slice p9_2 (((subQ p q).1.q1).length) p9_c2, .bool ((subQ p q).1.b2), .slice p9_3 (((subQ p q).1.t2).length) p9_c3, .slice p9_4 (((subQ p q).1.q2).length) p9_c4]) hA rfl rfl rfl (does_extract (vs := [.agg #[.bool ((subQ p q).1.b1), .slice p9_1 (((subQ p q).1.t1).length) p9_c1, .slice p9_2 (((subQ p q).1.q1).length) p9_c2, .bool ((subQ p q).1.b2), .slice p9_3 (((subQ p q).1.t2).length) p9_c3, .slice p9_4 (((subQ p q).1.q2).length) p9_c4], .int .i64 ((subQ p q).2)]) rfl rfl) ?_
  intro a hA
  refine seq_do (v := .int .i64 ((subQ p q).2)) hA rfl rfl rfl (does_extract (vs := [.agg #[.bool ((subQ p q).1.b1), .slice p9_1 (((subQ p q).1.t1).length) p9_c1, .slice p9_2 (((subQ p q).1.q1).length) p9_c2, .bool ((subQ p q).1.b2), .slice p9_3 (((subQ p q).1.t2).length) p9_c3, .slice p9_4 (((subQ p q).1.q2).length) p9_c4], .int .i64 ((subQ p q).2)]) rfl rfl) ?_
  intro a hA
  refine seq_store (us := [.bool ((subQ p q).1.b1), .slice p9_1 (((subQ p q).1.t1).length) p9_c1, .slice p9_2 (((subQ p q).1.q1).length) p9_c2, .bool ((subQ p q).1.b2), .slice p9_3 (((subQ p q).1.t2).length) p9_c3, .slice p9_4 (((subQ p q).1.q2).length) p9_c4]) hA hS rfl rfl (sets_store (cs := [.bool ((subQ p q).1.b1), .slice p9_1 (((subQ p q).1.t1).length) p9_c1, .slice p9_2 (((subQ p q).1.q1).length) p9_c2, .bool ((subQ p q).1.b2), .slice p9_3 (((subQ p q).1.t2).length) p9_c3, .slice p9_4 (((subQ p q).1.q2).length) p9_c4]) rfl rfl rfl (by kernel_rfl) hS 0 rfl rfl rfl) 0 rfl rfl rfl rfl ?_
  intro w13 hS
  refine seq_do hA rfl rfl rfl (does_assign rfl) ?_
  intro a hA
  refine seq_end ?_
  refine hK8 _ _ ?_
  refine wp_ret ?_
  refine hret _ _ ?_
  refine ends (v := .tuple #[.agg #[.bool ((subQ p q).1.b1), .slice p9_1 (((subQ p q).1.t1).length) p9_c1, .slice p9_2 (((subQ p q).1.q1).length) p9_c2, .bool ((subQ p q).1.b2), .slice p9_3 (((subQ p q).1.t2).length) p9_c3, .slice p9_4 (((subQ p q).1.q2).length) p9_c4], .int .i64 ((subQ p q).2)]) hA rfl (.cons (res_cell hS ExL_isS_26 rfl 0 rfl (cs := [.bool ((subQ p q).1.b1), .slice p9_1 (((subQ p q).1.t1).length) p9_c1, .slice p9_2 (((subQ p q).1.q1).length) p9_c2, .bool ((subQ p q).1.b2), .slice p9_3 (((subQ p q).1.t2).length) p9_c3, .slice p9_4 (((subQ p q).1.q2).length) p9_c4]) rfl rfl) (.cons (res_tmp rfl) .nil)) rfl ?_
  exact ⟨p9_1, p9_c1, p9_2, p9_c2, p9_3, p9_c3, p9_4, p9_c4, rfl, ⟨⟨(hS.rd 3 rfl), hn10.s1.nil, hn10.s1.cap⟩, ⟨(hS.rd 2 rfl), hn10.s2.nil, hn10.s2.cap⟩, ⟨(hS.rd 1 rfl), hn10.s3.nil, hn10.s3.cap⟩, ⟨(hS.rd 0 rfl), hn10.s4.nil, hn10.s4.cap⟩⟩, hS.bel⟩
theorem divZ_any {w : World} {u v x y : Rat} {a1 a2 a3 a4 : Option Addr} {ac1 ac2 ac3 ac4 : Nat} (ha : Nm w (Q6.rat u v) a1 ac1 a2 ac2 a3 ac3 a4 ac4) {u1 u2 u3 u4 : Option Addr} {uc1 uc2 uc3 uc4 : Nat} (hb : Nm w (Q6.rat x y) u1 uc1 u2 uc2 u3 uc3 u4 uc4) (hu : fitR u) (hv : fitR v) (hx : fitR x) (hy : fitR y) (hz : x = 0 ∧ y = 0) : Calls Tryz.prog 54 #[numV (Q6.rat u v) a1 ac1 a2 ac2 a3 ac3 a4 ac4, numV (Q6.rat x y) u1 uc1 u2 uc2 u3 uc3 u4 uc4] w (AnsN w (Q6.zero, 3)) := by
  have k1 : (words x.num.natAbs).length ≤ 512 := hx.1
  have k2 : (words y.num.natAbs).length ≤ 512 := hy.1
  have hS : St w w [] [(u4, words y.den), (u3, words y.num.natAbs), (u2, words x.den), (u1, words x.num.natAbs), (a4, words v.den), (a3, words v.num.natAbs), (a2, words u.den), (a1, words u.num.natAbs)] [] := ((((((((St.start w).addR ha.s1.rd).addR ha.s2.rd).addR ha.s3.rd).addR ha.s4.rd).addR hb.s1.rd).addR hb.s2.rd).addR hb.s3.rd).addR hb.s4.rd
  refine walk_of (l := [(0, .agg #[.bool (rb u.num), .slice a1 ((words u.num.natAbs).length) ac1, .slice a2 ((words u.den).length) ac2, .bool (rb v.num), .slice a3 ((words v.num.natAbs).length) ac3, .slice a4 ((words v.den).length) ac4]), (1, .agg #[.bool (rb x.num), .slice u1 ((words x.num.natAbs).length) uc1, .slice u2 ((words x.den).length) uc2, .bool (rb y.num), .slice u3 ((words y.num.natAbs).length) uc3, .slice u4 ((words y.den).length) uc4])]) Tryz.func54 rfl Tryz.ntmps54 rfl rfl ?_
  intro Q hret hnorm hP a hA
  refine wp_seq_k (fun K1 hK1 => ?_)
  refine wp_region_lit ?_
  refine seq_new (vs := [.bool (rb u.num), .slice a1 ((words u.num.natAbs).length) ac1, .slice a2 ((words u.den).length) ac2, .bool (rb v.num), .slice a3 ((words v.num.natAbs).length) ac3, .slice a4 ((words v.den).length) ac4]) (t := 26) hA hS rfl rfl rfl (fun g => .pointer (some ⟨g, 0, none⟩)) (does_box rfl rfl) rfl ?_
  intro g2 w3 hS a hA
  refine seq_new (vs := [.bool (rb x.num), .slice u1 ((words x.num.natAbs).length) uc1, .slice u2 ((words x.den).length) uc2, .bool (rb y.num), .slice u3 ((words y.num.natAbs).length) uc3, .slice u4 ((words y.den).length) uc4]) (t := 26) hA hS rfl rfl rfl (fun g => .pointer (some ⟨g, 0, none⟩)) (does_box rfl rfl) rfl ?_
  intro g4 w5 hS a hA
  refine seq_new (vs := [.bool false, .slice none 0 0, .slice none 0 0, .bool false, .slice none 0 0, .slice none 0 0]) (t := 26) hA hS rfl rfl rfl (fun g => .pointer (some ⟨g, 0, none⟩)) (does_alloc (z := .agg #[.bool false, .slice none 0 0, .slice none 0 0, .bool false, .slice none 0 0, .slice none 0 0]) (by kernel_rfl) rfl) rfl ?_
  intro g6 w7 hS a hA
  refine seq_do hA rfl rfl rfl (does_assign rfl) ?_
  intro a hA
  refine seq_end ?_
  refine hK1 _ _ ?_
  refine wp_seq_k (fun K8 hK8 => ?_)
  refine wp_seq_k (fun K9 hK9 => ?_)
  refine wp_region_lit ?_
  refine seq_do (v := .agg #[.bool (rb u.num), .slice a1 ((words u.num.natAbs).length) ac1, .slice a2 ((words u.den).length) ac2, .bool (rb v.num), .slice a3 ((words v.num.natAbs).length) ac3, .slice a4 ((words v.den).length) ac4]) hA rfl rfl rfl (does_loadS hS ExL_isS_26 rfl 2 rfl (cs := [.bool (rb u.num), .slice a1 ((words u.num.natAbs).length) ac1, .slice a2 ((words u.den).length) ac2, .bool (rb v.num), .slice a3 ((words v.num.natAbs).length) ac3, .slice a4 ((words v.den).length) ac4]) rfl rfl) ?_
  intro a hA
  refine seq_call hA rfl rfl rfl (enters_func  rfl rfl (fun w => by kernel_rfl)) (soundQ_any (show Nm _ (Q6.rat u v) a1 ac1 a2 ac2 a3 ac3 a4 ac4 from ⟨⟨(hS.rd 7 rfl), ha.s1.nil, ha.s1.cap⟩, ⟨(hS.rd 6 rfl), ha.s2.nil, ha.s2.cap⟩, ⟨(hS.rd 5 rfl), ha.s3.nil, ha.s3.cap⟩, ⟨(hS.rd 4 rfl), ha.s4.nil, ha.s4.cap⟩⟩) (lenQ_rat hu hv) (soundQ_rat hu hv)) ?_
  rintro _ w11 ⟨rfl, hb10⟩
  replace hS := hS.call hb10
  refine ⟨_, rfl, ?_⟩
  intro a hA
  refine seq_do (v := .bool false) hA rfl rfl rfl (does_un rfl un_not) ?_
  intro a hA
  refine seq_do hA rfl rfl rfl (does_move rfl) ?_
  intro a hA
  refine seq_do (v := .agg #[.bool (rb x.num), .slice u1 ((words x.num.natAbs).length) uc1, .slice u2 ((words x.den).length) uc2, .bool (rb y.num), .slice u3 ((words y.num.natAbs).length) uc3, .slice u4 ((words y.den).length) uc4]) hA rfl rfl rfl (does_loadS hS ExL_isS_26 rfl 1 rfl (cs := [.bool (rb x.num), .slice u1 ((words x.num.natAbs).length) uc1, .slice u2 ((words x.den).length) uc2, .bool (rb y.num), .slice u3 ((words y.num.natAbs).length) uc3, .slice u4 ((words y.den).length) uc4]) rfl rfl) ?_
  intro a hA
  refine seq_call hA rfl rfl rfl (enters_func  rfl rfl (fun w => by kernel_rfl)) (soundQ_any (show Nm _ (Q6.rat x y) u1 uc1 u2 uc2 u3 uc3 u4 uc4 from ⟨⟨(hS.rd 3 rfl), hb.s1.nil, hb.s1.cap⟩, ⟨(hS.rd 2 rfl), hb.s2.nil, hb.s2.cap⟩, ⟨(hS.rd 1 rfl), hb.s3.nil, hb.s3.cap⟩, ⟨(hS.rd 0 rfl), hb.s4.nil, hb.s4.cap⟩⟩) (lenQ_rat hx hy) (soundQ_rat hx hy)) ?_
  rintro _ w13 ⟨rfl, hb12⟩
  replace hS := hS.call hb12
  refine ⟨_, rfl, ?_⟩
  intro a hA
  refine seq_do (v := .bool false) hA rfl rfl rfl (does_un rfl un_not) ?_
  intro a hA
  refine seq_do (v := .bool false) hA rfl rfl rfl (does_pick rfl rfl rfl rfl) ?_
  intro a hA
  refine seq_end ?_
  refine hK9 _ _ ?_
  refine wp_cond_false (hA.ev rfl) ?_
  refine wp_skip ?_
  refine hK8 _ _ ?_
  refine wp_seq_k (fun K14 hK14 => ?_)
  refine wp_seq_k (fun K15 hK15 => ?_)
  refine wp_region_lit ?_
  refine seq_do (v := .agg #[.bool (rb x.num), .slice u1 ((words x.num.natAbs).length) uc1, .slice u2 ((words x.den).length) uc2, .bool (rb y.num), .slice u3 ((words y.num.natAbs).length) uc3, .slice u4 ((words y.den).length) uc4]) hA rfl rfl rfl (does_loadS hS ExL_isS_26 rfl 1 rfl (cs := [.bool (rb x.num), .slice u1 ((words x.num.natAbs).length) uc1, .slice u2 ((words x.den).length) uc2, .bool (rb y.num), .slice u3 ((words y.num.natAbs).length) uc3, .slice u4 ((words y.den).length) uc4]) rfl rfl) ?_
  intro a hA
  refine seq_call hA rfl rfl rfl (enters_func  rfl rfl (fun w => by kernel_rfl)) ((show Calls Tryz.prog 66 #[.agg #[.bool (rb x.num), .slice u1 ((words x.num.natAbs).length) uc1, .slice u2 ((words x.den).length) uc2, .bool (rb y.num), .slice u3 ((words y.num.natAbs).length) uc3, .slice u4 ((words y.den).length) uc4]] _ (fun e w' => e = .returned (.bool true) ∧ _) from (((zero_rat x y).trans (decide_eq_true hz)) ▸ isZero_any (by omega) (by omega)))) ?_
  rintro _ w17 ⟨rfl, hb16⟩
  replace hS := hS.call hb16
  refine ⟨_, rfl, ?_⟩
  intro a hA
  refine seq_end ?_
  refine hK15 _ _ ?_
  refine wp_cond_true (hA.ev rfl) ?_
  refine wp_seq_k (fun K18 hK18 => ?_)
  refine wp_region_lit ?_
  refine seq_do (v := .agg #[.bool false, .slice none 0 0, .slice none 0 0, .bool false, .slice none 0 0, .slice none 0 0]) hA rfl rfl rfl (does_build rfl (fun w => by kernel_rfl)) ?_
  intro a hA
  refine seq_store (us := [.bool false, .slice none 0 0, .slice none 0 0, .bool false, .slice none 0 0, .slice none 0 0]) hA hS rfl rfl (sets_store (cs := [.bool false, .slice none 0 0, .slice none 0 0, .bool false, .slice none 0 0, .slice none 0 0]) rfl rfl rfl (by kernel_rfl) hS 0 rfl rfl rfl) 0 rfl rfl rfl rfl ?_
  intro w19 hS
  refine seq_do hA rfl rfl rfl (does_assign rfl) ?_
  intro a hA
  refine seq_end ?_
  refine hK18 _ _ ?_
  refine wp_ret ?_
  refine hret _ _ ?_
  refine ends (v := .tuple #[.agg #[.bool false, .slice none 0 0, .slice none 0 0, .bool false, .slice none 0 0, .slice none 0 0], .int .i64 3]) hA rfl (.cons (res_cell hS ExL_isS_26 rfl 0 rfl (cs := [.bool false, .slice none 0 0, .slice none 0 0, .bool false, .slice none 0 0, .slice none 0 0]) rfl rfl) (.cons (res_tmp rfl) .nil)) rfl ?_
  exact ⟨none, 0, none, 0, none, 0, none, 0, rfl, ⟨(Sc.none _), (Sc.none _), (Sc.none _), (Sc.none _)⟩, hS.bel⟩
theorem divN_any {w : World} {u v x y : Rat} {a1 a2 a3 a4 : Option Addr} {ac1 ac2 ac3 ac4 : Nat} (ha : Nm w (Q6.rat u v) a1 ac1 a2 ac2 a3 ac3 a4 ac4) {u1 u2 u3 u4 : Option Addr} {uc1 uc2 uc3 uc4 : Nat} (hb : Nm w (Q6.rat x y) u1 uc1 u2 uc2 u3 uc3 u4 uc4) (hu : fitR u) (hv : fitR v) (hx : fitR x) (hy : fitR y) (hz : ¬ (x = 0 ∧ y = 0)) : Calls Tryz.prog 54 #[numV (Q6.rat u v) a1 ac1 a2 ac2 a3 ac3 a4 ac4, numV (Q6.rat x y) u1 uc1 u2 uc2 u3 uc3 u4 uc4] w (AnsN w (ratS ((u * x + v * y) / (x * x + y * y)) ((v * x - u * y) / (x * x + y * y)))) := by
  have k1 : (words x.num.natAbs).length ≤ 512 := hx.1
  have k2 : (words y.num.natAbs).length ≤ 512 := hy.1
  have m1 := spX_len hu hv
  have m2 := spY_len hu hv
  have m3 := spD_len hu hv
  have m4 := spX_len hx hy
  have m5 := spY_len hx hy
  have m6 := spD_len hx hy
  have n1 := ivX_len (y := spY x y) m4 m6
  have n2 := ivY_len (x := spX x y) m5 m6
  have n3 := ivD_len m4 m5
  have hS : St w w [] [(u4, words y.den), (u3, words y.num.natAbs), (u2, words x.den), (u1, words x.num.natAbs), (a4, words v.den), (a3, words v.num.natAbs), (a2, words u.den), (a1, words u.num.natAbs)] [] := ((((((((St.start w).addR ha.s1.rd).addR ha.s2.rd).addR ha.s3.rd).addR ha.s4.rd).addR hb.s1.rd).addR hb.s2.rd).addR hb.s3.rd).addR hb.s4.rd
  refine walk_of (l := [(0, .agg #[.bool (rb u.num), .slice a1 ((words u.num.natAbs).length) ac1, .slice a2 ((words u.den).length) ac2, .bool (rb v.num), .slice a3 ((words v.num.natAbs).length) ac3, .slice a4 ((words v.den).length) ac4]), (1, .agg #[.bool (rb x.num), .slice u1 ((words x.num.natAbs).length) uc1, .slice u2 ((words x.den).length) uc2, .bool (rb y.num), .slice u3 ((words y.num.natAbs).length) uc3, .slice u4 ((words y.den).length) uc4])]) Tryz.func54 rfl Tryz.ntmps54 rfl rfl ?_
  intro Q hret hnorm hP a hA
  refine wp_seq_k (fun K1 hK1 => ?_)
  refine wp_region_lit ?_
  refine seq_new (vs := [.bool (rb u.num), .slice a1 ((words u.num.natAbs).length) ac1, .slice a2 ((words u.den).length) ac2, .bool (rb v.num), .slice a3 ((words v.num.natAbs).length) ac3, .slice a4 ((words v.den).length) ac4]) (t := 26) hA hS rfl rfl rfl (fun g => .pointer (some ⟨g, 0, none⟩)) (does_box rfl rfl) rfl ?_
  intro g2 w3 hS a hA
  refine seq_new (vs := [.bool (rb x.num), .slice u1 ((words x.num.natAbs).length) uc1, .slice u2 ((words x.den).length) uc2, .bool (rb y.num), .slice u3 ((words y.num.natAbs).length) uc3, .slice u4 ((words y.den).length) uc4]) (t := 26) hA hS rfl rfl rfl (fun g => .pointer (some ⟨g, 0, none⟩)) (does_box rfl rfl) rfl ?_
  intro g4 w5 hS a hA
  refine seq_new (vs := [.bool false, .slice none 0 0, .slice none 0 0, .bool false, .slice none 0 0, .slice none 0 0]) (t := 26) hA hS rfl rfl rfl (fun g => .pointer (some ⟨g, 0, none⟩)) (does_alloc (z := .agg #[.bool false, .slice none 0 0, .slice none 0 0, .bool false, .slice none 0 0, .slice none 0 0]) (by kernel_rfl) rfl) rfl ?_
  intro g6 w7 hS a hA
  refine seq_do hA rfl rfl rfl (does_assign rfl) ?_
  intro a hA
  refine seq_end ?_
  refine hK1 _ _ ?_
  refine wp_seq_k (fun K8 hK8 => ?_)
  refine wp_seq_k (fun K9 hK9 => ?_)
  refine wp_region_lit ?_
  refine seq_do (v := .agg #[.bool (rb u.num), .slice a1 ((words u.num.natAbs).length) ac1, .slice a2 ((words u.den).length) ac2, .bool (rb v.num), .slice a3 ((words v.num.natAbs).length) ac3, .slice a4 ((words v.den).length) ac4]) hA rfl rfl rfl (does_loadS hS ExL_isS_26 rfl 2 rfl (cs := [.bool (rb u.num), .slice a1 ((words u.num.natAbs).length) ac1, .slice a2 ((words u.den).length) ac2, .bool (rb v.num), .slice a3 ((words v.num.natAbs).length) ac3, .slice a4 ((words v.den).length) ac4]) rfl rfl) ?_
  intro a hA
  refine seq_call hA rfl rfl rfl (enters_func  rfl rfl (fun w => by kernel_rfl)) (soundQ_any (show Nm _ (Q6.rat u v) a1 ac1 a2 ac2 a3 ac3 a4 ac4 from ⟨⟨(hS.rd 7 rfl), ha.s1.nil, ha.s1.cap⟩, ⟨(hS.rd 6 rfl), ha.s2.nil, ha.s2.cap⟩, ⟨(hS.rd 5 rfl), ha.s3.nil, ha.s3.cap⟩, ⟨(hS.rd 4 rfl), ha.s4.nil, ha.s4.cap⟩⟩) (lenQ_rat hu hv) (soundQ_rat hu hv)) ?_
  rintro _ w11 ⟨rfl, hb10⟩
  replace hS := hS.call hb10
  refine ⟨_, rfl, ?_⟩
  intro a hA
  refine seq_do (v := .bool false) hA rfl rfl rfl (does_un rfl un_not) ?_
  intro a hA
  refine seq_do hA rfl rfl rfl (does_move rfl) ?_
  intro a hA
  refine seq_do (v := .agg #[.bool (rb x.num), .slice u1 ((words x.num.natAbs).length) uc1, .slice u2 ((words x.den).length) uc2, .bool (rb y.num), .slice u3 ((words y.num.natAbs).length) uc3, .slice u4 ((words y.den).length) uc4]) hA rfl rfl rfl (does_loadS hS ExL_isS_26 rfl 1 rfl (cs := [.bool (rb x.num), .slice u1 ((words x.num.natAbs).length) uc1, .slice u2 ((words x.den).length) uc2, .bool (rb y.num), .slice u3 ((words y.num.natAbs).length) uc3, .slice u4 ((words y.den).length) uc4]) rfl rfl) ?_
  intro a hA
  refine seq_call hA rfl rfl rfl (enters_func  rfl rfl (fun w => by kernel_rfl)) (soundQ_any (show Nm _ (Q6.rat x y) u1 uc1 u2 uc2 u3 uc3 u4 uc4 from ⟨⟨(hS.rd 3 rfl), hb.s1.nil, hb.s1.cap⟩, ⟨(hS.rd 2 rfl), hb.s2.nil, hb.s2.cap⟩, ⟨(hS.rd 1 rfl), hb.s3.nil, hb.s3.cap⟩, ⟨(hS.rd 0 rfl), hb.s4.nil, hb.s4.cap⟩⟩) (lenQ_rat hx hy) (soundQ_rat hx hy)) ?_
  rintro _ w13 ⟨rfl, hb12⟩
  replace hS := hS.call hb12
  refine ⟨_, rfl, ?_⟩
  intro a hA
  refine seq_do (v := .bool false) hA rfl rfl rfl (does_un rfl un_not) ?_
  intro a hA
  refine seq_do (v := .bool false) hA rfl rfl rfl (does_pick rfl rfl rfl rfl) ?_
  intro a hA
  refine seq_end ?_
  refine hK9 _ _ ?_
  refine wp_cond_false (hA.ev rfl) ?_
  refine wp_skip ?_
  refine hK8 _ _ ?_
  refine wp_seq_k (fun K14 hK14 => ?_)
  refine wp_seq_k (fun K15 hK15 => ?_)
  refine wp_region_lit ?_
  refine seq_do (v := .agg #[.bool (rb x.num), .slice u1 ((words x.num.natAbs).length) uc1, .slice u2 ((words x.den).length) uc2, .bool (rb y.num), .slice u3 ((words y.num.natAbs).length) uc3, .slice u4 ((words y.den).length) uc4]) hA rfl rfl rfl (does_loadS hS ExL_isS_26 rfl 1 rfl (cs := [.bool (rb x.num), .slice u1 ((words x.num.natAbs).length) uc1, .slice u2 ((words x.den).length) uc2, .bool (rb y.num), .slice u3 ((words y.num.natAbs).length) uc3, .slice u4 ((words y.den).length) uc4]) rfl rfl) ?_
  intro a hA
  refine seq_call hA rfl rfl rfl (enters_func  rfl rfl (fun w => by kernel_rfl)) ((show Calls Tryz.prog 66 #[.agg #[.bool (rb x.num), .slice u1 ((words x.num.natAbs).length) uc1, .slice u2 ((words x.den).length) uc2, .bool (rb y.num), .slice u3 ((words y.num.natAbs).length) uc3, .slice u4 ((words y.den).length) uc4]] _ (fun e w' => e = .returned (.bool false) ∧ _) from (((zero_rat x y).trans (decide_eq_false hz)) ▸ isZero_any (by omega) (by omega)))) ?_
  rintro _ w17 ⟨rfl, hb16⟩
  replace hS := hS.call hb16
  refine ⟨_, rfl, ?_⟩
  intro a hA
  refine seq_end ?_
  refine hK15 _ _ ?_
  refine wp_cond_false (hA.ev rfl) ?_
  refine wp_skip ?_
  refine hK14 _ _ ?_
  refine wp_seq_k (fun K18 hK18 => ?_)
  refine wp_draw (S := fun w1 => St w w1 [(g4, [.bool (rb x.num), .slice u1 ((words x.num.natAbs).length) uc1, .slice u2 ((words x.den).length) uc2, .bool (rb y.num), .slice u3 ((words y.num.natAbs).length) uc3, .slice u4 ((words y.den).length) uc4]), (g2, [.bool (rb u.num), .slice a1 ((words u.num.natAbs).length) ac1, .slice a2 ((words u.den).length) ac2, .bool (rb v.num), .slice a3 ((words v.num.natAbs).length) ac3, .slice a4 ((words v.den).length) ac4])] [(u4, words y.den), (u3, words y.num.natAbs), (u2, words x.den), (u1, words x.num.natAbs), (a4, words v.den), (a3, words v.num.natAbs), (a2, words u.den), (a1, words u.num.natAbs)] []) (by kernel_rfl) ?_
  replace hS := hS.drew
  refine any_take (v := .agg #[.bool (rb u.num), .slice a1 ((words u.num.natAbs).length) ac1, .slice a2 ((words u.den).length) ac2, .bool (rb v.num), .slice a3 ((words v.num.natAbs).length) ac3, .slice a4 ((words v.den).length) ac4]) hA 0 rfl rfl rfl rfl (by kernel_rfl) (by kernel_rfl) (by kernel_rfl) (fun c a w h => hP c a _ _ w h) (hS.partD (.cons _ (.cons_cons _ (.cons_cons _ .slnil))) 0 rfl (.refl _)) (fun w1 hS => does_loadS hS ExL_isS_26 rfl 1 rfl (cs := [.bool (rb u.num), .slice a1 ((words u.num.natAbs).length) ac1, .slice a2 ((words u.den).length) ac2, .bool (rb v.num), .slice a3 ((words v.num.natAbs).length) ac3, .slice a4 ((words v.den).length) ac4]) rfl rfl) ?_
  intro a hA
  refine any_take (v := .agg #[.bool (rb x.num), .slice u1 ((words x.num.natAbs).length) uc1, .slice u2 ((words x.den).length) uc2, .bool (rb y.num), .slice u3 ((words y.num.natAbs).length) uc3, .slice u4 ((words y.den).length) uc4]) hA 2 rfl rfl rfl rfl (by kernel_rfl) (by kernel_rfl) (by kernel_rfl) (fun c a w h => hP c a _ _ w h) (hS.partD (.cons _ (.cons_cons _ (.cons_cons _ .slnil))) 0 rfl (.refl _)) (fun w1 hS => does_loadS hS ExL_isS_26 rfl 0 rfl (cs := [.bool (rb x.num), .slice u1 ((words x.num.natAbs).length) uc1, .slice u2 ((words x.den).length) uc2, .bool (rb y.num), .slice u3 ((words y.num.natAbs).length) uc3, .slice u4 ((words y.den).length) uc4]) rfl rfl) ?_
  intro a hA
  refine any_one (by kernel_rfl) (op_call hA 1 rfl rfl rfl rfl (enters_func  rfl rfl (fun w => by kernel_rfl)) (zspread_any (show Nm _ (Q6.rat u v) a1 ac1 a2 ac2 a3 ac3 a4 ac4 from ⟨⟨(hS.rd 7 rfl), ha.s1.nil, ha.s1.cap⟩, ⟨(hS.rd 6 rfl), ha.s2.nil, ha.s2.cap⟩, ⟨(hS.rd 5 rfl), ha.s3.nil, ha.s3.cap⟩, ⟨(hS.rd 4 rfl), ha.s4.nil, ha.s4.cap⟩⟩) hu hv) ?_)
  rintro _ w24 ⟨p19_1, p19_c1, p19_2, p19_c2, p19_3, p19_c3, rfl, hs20, hs21, hs22, hb23⟩
  replace hS := hS.call hb23
  replace hS := hS.addR hs20.rd
  replace hS := hS.addR hs21.rd
  replace hS := hS.addR hs22.rd
  refine ⟨_, rfl, (hS.partD (.cons _ (.cons_cons _ (.cons_cons _ .slnil))) 3 rfl (.refl _)), ?_⟩
  intro a hA
  refine any_one (by kernel_rfl) (op_call hA 3 rfl rfl rfl rfl (enters_func  rfl rfl (fun w => by kernel_rfl)) (zspread_any (show Nm _ (Q6.rat x y) u1 uc1 u2 uc2 u3 uc3 u4 uc4 from ⟨⟨(hS.rd 6 rfl), hb.s1.nil, hb.s1.cap⟩, ⟨(hS.rd 5 rfl), hb.s2.nil, hb.s2.cap⟩, ⟨(hS.rd 4 rfl), hb.s3.nil, hb.s3.cap⟩, ⟨(hS.rd 3 rfl), hb.s4.nil, hb.s4.cap⟩⟩) hx hy) ?_)
  rintro _ w30 ⟨p25_1, p25_c1, p25_2, p25_c2, p25_3, p25_c3, rfl, hs26, hs27, hs28, hb29⟩
  replace hS := hS.call hb29
  replace hS := hS.addR hs26.rd
  replace hS := hS.addR hs27.rd
  replace hS := hS.addR hs28.rd
  refine ⟨_, rfl, (hS.partD (.cons _ (.cons_cons _ (.cons_cons _ .slnil))) 6 rfl (.refl _)), ?_⟩
  intro a hA
  refine any_one (by kernel_rfl) (op_call hA 4 rfl rfl rfl rfl (enters_func  rfl rfl (fun w => by kernel_rfl)) (zinv_any ⟨(hS.rd 2 rfl), hs26.nil, hs26.cap⟩ ⟨(hS.rd 1 rfl), hs27.nil, hs27.cap⟩ ⟨(hS.rd 0 rfl), hs28.nil, hs28.cap⟩ (by omega) (by omega) (by omega)) ?_)
  rintro _ w36 ⟨p31_1, p31_c1, p31_2, p31_c2, p31_3, p31_c3, rfl, hs32, hs33, hs34, hb35⟩
  replace hS := hS.call hb35
  replace hS := hS.addR hs32.rd
  replace hS := hS.addR hs33.rd
  replace hS := hS.addR hs34.rd
  refine ⟨_, rfl, (hS.partD (.cons _ (.cons_cons _ (.cons_cons _ .slnil))) 9 rfl (.refl _)), ?_⟩
  intro a hA
  refine any_one (by kernel_rfl) (op_call hA 5 rfl rfl rfl rfl (enters_func  rfl rfl (fun w => by kernel_rfl)) (zproduct_any ⟨(hS.rd 8 rfl), hs20.nil, hs20.cap⟩ ⟨(hS.rd 7 rfl), hs21.nil, hs21.cap⟩ ⟨(hS.rd 6 rfl), hs22.nil, hs22.cap⟩ ⟨(hS.rd 2 rfl), hs32.nil, hs32.cap⟩ ⟨(hS.rd 1 rfl), hs33.nil, hs33.cap⟩ ⟨(hS.rd 0 rfl), hs34.nil, hs34.cap⟩ (by omega) (by omega) (by omega) (by omega) (by omega) (by omega)) ?_)
  rintro _ w42 ⟨p37_1, p37_c1, p37_2, p37_c2, p37_3, p37_c3, rfl, hs38, hs39, hs40, hb41⟩
  replace hS := hS.call hb41
  replace hS := hS.addR hs38.rd
  replace hS := hS.addR hs39.rd
  replace hS := hS.addR hs40.rd
  refine ⟨_, rfl, (hS.partD (.cons _ (.cons_cons _ (.cons_cons _ .slnil))) 12 rfl (.refl _)), ?_⟩
  intro a hA
  refine any_one (by kernel_rfl) (op_call hA 6 rfl rfl rfl rfl (enters_func  rfl rfl (fun w => by kernel_rfl)) (zsettle_as ⟨(hS.rd 2 rfl), hs38.nil, hs38.cap⟩ ⟨(hS.rd 1 rfl), hs39.nil, hs39.cap⟩ ⟨(hS.rd 0 rfl), hs40.nil, hs40.cap⟩ (set_div (spD_ne u v) (spD_ne x y) (spX_mk u v) (spY_mk u v) (spX_mk x y) (spY_mk x y) (sp_ne hz)) (Nat.le_trans (abs_add_len (Nat.le_trans (abs_mul_len m1 n1) (by decide : _ ≤ 4096)) (Nat.le_trans (neg_len (abs_mul_len m2 n2)) (by decide : _ ≤ 4096))) (by decide)) (Nat.le_trans (abs_add_len (Nat.le_trans (abs_mul_len m1 n2) (by decide : _ ≤ 4096)) (Nat.le_trans (abs_mul_len m2 n1) (by decide : _ ≤ 4096))) (by decide)) (Nat.le_trans (words_mul_length m3 n3) (by decide)) (Nat.mul_ne_zero (spD_ne u v) (ivD_ne (sp_ne hz)))) ?_)
  rintro _ w46 ⟨p43_1, p43_c1, p43_2, p43_c2, p43_3, p43_c3, p43_4, p43_c4, rfl, hn44, hb45⟩
  replace hS := hS.call hb45
  replace hS := hS.addR hn44.s1.rd
  replace hS := hS.addR hn44.s2.rd
  replace hS := hS.addR hn44.s3.rd
  replace hS := hS.addR hn44.s4.rd
  refine ⟨_, rfl, (hS.partD (.cons _ (.cons_cons _ (.cons_cons _ .slnil))) 16 rfl (.refl _)), ?_⟩
  intro a hA
  refine any_take (v := .agg #[.bool ((ratS ((u * x + v * y) / (x * x + y * y)) ((v * x - u * y) / (x * x + y * y))).1.b1), .slice p43_1 (((ratS ((u * x + v * y) / (x * x + y * y)) ((v * x - u * y) / (x * x + y * y))).1.t1).length) p43_c1, .slice p43_2 (((ratS ((u * x + v * y) / (x * x + y * y)) ((v * x - u * y) / (x * x + y * y))).1.q1).length) p43_c2, .bool ((ratS ((u * x + v * y) / (x * x + y * y)) ((v * x - u * y) / (x * x + y * y))).1.b2), .slice p43_3 (((ratS ((u * x + v * y) / (x * x + y * y)) ((v * x - u * y) / (x * x + y * y))).1.t2).length) p43_c3, .slice p43_4 (((ratS ((u * x + v * y) / (x * x + y * y)) ((v * x - u * y) / (x * x + y * y))).1.q2).length) p43_c4]) hA 7 rfl rfl rfl rfl (by kernel_rfl) (by kernel_rfl) (by kernel_rfl) (fun c a w h => hP c a _ _ w h) (hS.partD (.cons _ (.cons_cons _ (.cons_cons _ .slnil))) 16 rfl (.refl _)) (fun w1 hS => does_extract (vs := [.agg #[.bool ((ratS ((u * x + v * y) / (x * x + y * y)) ((v * x - u * y) / (x * x + y * y))).1.b1), .slice p43_1 (((ratS ((u * x + v * y) / (x * x + y * y)) ((v * x - u * y) / (x * x + y * y))).1.t1).length) p43_c1, .slice p43_2 (((ratS ((u * x + v * y) / (x * x + y * y)) ((v * x - u * y) / (x * x + y * y))).1.q1).length) p43_c2, .bool ((ratS ((u * x + v * y) / (x * x + y * y)) ((v * x - u * y) / (x * x + y * y))).1.b2), .slice p43_3 (((ratS ((u * x + v * y) / (x * x + y * y)) ((v * x - u * y) / (x * x + y * y))).1.t2).length) p43_c3, .slice p43_4 (((ratS ((u * x + v * y) / (x * x + y * y)) ((v * x - u * y) / (x * x + y * y))).1.q2).length) p43_c4], .int .i64 ((ratS ((u * x + v * y) / (x * x + y * y)) ((v * x - u * y) / (x * x + y * y))).2)]) rfl rfl) ?_
  intro a hA
  refine any_take (v := .int .i64 ((ratS ((u * x + v * y) / (x * x + y * y)) ((v * x - u * y) / (x * x + y * y))).2)) hA 8 rfl rfl rfl rfl (by kernel_rfl) (by kernel_rfl) (by kernel_rfl) (fun c a w h => hP c a _ _ w h) (hS.partD (.cons _ (.cons_cons _ (.cons_cons _ .slnil))) 16 rfl (.refl _)) (fun w1 hS => does_extract (vs := [.agg #[.bool ((ratS ((u * x + v * y) / (x * x + y * y)) ((v * x - u * y) / (x * x + y * y))).1.b1), .slice p43_1 (((ratS ((u * x + v * y) / (x * x + y * y)) ((v * x - u * y) / (x * x + y * y))).1.t1).length) p43_c1, .slice p43_2 (((ratS ((u * x + v * y) / (x * x + y * y)) ((v * x - u * y) / (x * x + y * y))).1.q1).length) p43_c2, .bool ((ratS ((u * x + v * y) / (x * x + y * y)) ((v * x - u * y) / (x * x + y * y))).1.b2), .slice p43_3 (((ratS ((u * x + v * y) / (x * x + y * y)) ((v * x - u * y) / (x * x + y * y))).1.t2).length) p43_c3, .slice p43_4 (((ratS ((u * x + v * y) / (x * x + y * y)) ((v * x - u * y) / (x * x + y * y))).1.q2).length) p43_c4], .int .i64 ((ratS ((u * x + v * y) / (x * x + y * y)) ((v * x - u * y) / (x * x + y * y))).2)]) rfl rfl) ?_
  intro a hA
  refine any_one (by kernel_rfl) (op_store (us := [.bool ((ratS ((u * x + v * y) / (x * x + y * y)) ((v * x - u * y) / (x * x + y * y))).1.b1), .slice p43_1 (((ratS ((u * x + v * y) / (x * x + y * y)) ((v * x - u * y) / (x * x + y * y))).1.t1).length) p43_c1, .slice p43_2 (((ratS ((u * x + v * y) / (x * x + y * y)) ((v * x - u * y) / (x * x + y * y))).1.q1).length) p43_c2, .bool ((ratS ((u * x + v * y) / (x * x + y * y)) ((v * x - u * y) / (x * x + y * y))).1.b2), .slice p43_3 (((ratS ((u * x + v * y) / (x * x + y * y)) ((v * x - u * y) / (x * x + y * y))).1.t2).length) p43_c3, .slice p43_4 (((ratS ((u * x + v * y) / (x * x + y * y)) ((v * x - u * y) / (x * x + y * y))).1.q2).length) p43_c4]) hA hS 9 rfl rfl rfl (sets_store (cs := [.bool ((ratS ((u * x + v * y) / (x * x + y * y)) ((v * x - u * y) / (x * x + y * y))).1.b1), .slice p43_1 (((ratS ((u * x + v * y) / (x * x + y * y)) ((v * x - u * y) / (x * x + y * y))).1.t1).length) p43_c1, .slice p43_2 (((ratS ((u * x + v * y) / (x * x + y * y)) ((v * x - u * y) / (x * x + y * y))).1.q1).length) p43_c2, .bool ((ratS ((u * x + v * y) / (x * x + y * y)) ((v * x - u * y) / (x * x + y * y))).1.b2), .slice p43_3 (((ratS ((u * x + v * y) / (x * x + y * y)) ((v * x - u * y) / (x * x + y * y))).1.t2).length) p43_c3, .slice p43_4 (((ratS ((u * x + v * y) / (x * x + y * y)) ((v * x - u * y) / (x * x + y * y))).1.q2).length) p43_c4]) rfl rfl rfl (by kernel_rfl) hS 0 rfl rfl rfl) 0 rfl rfl rfl rfl ?_)
  intro w47 hS
  refine ⟨(hS.partD (.cons _ (.cons_cons _ (.cons_cons _ .slnil))) 16 rfl (.refl _)), ?_⟩
  refine any_take hA 10 rfl rfl rfl rfl (by kernel_rfl) (by kernel_rfl) (by kernel_rfl) (fun c a w h => hP c a _ _ w h) (hS.partD (.cons _ (.cons_cons _ (.cons_cons _ .slnil))) 16 rfl (.refl _)) (fun w1 hS => does_assign rfl) ?_
  intro a hA
  refine any_end (by kernel_rfl) ?_
  refine hK18 _ _ ?_
  refine wp_ret ?_
  refine hret _ _ ?_
  refine ends (v := .tuple #[.agg #[.bool ((ratS ((u * x + v * y) / (x * x + y * y)) ((v * x - u * y) / (x * x + y * y))).1.b1), .slice p43_1 (((ratS ((u * x + v * y) / (x * x + y * y)) ((v * x - u * y) / (x * x + y * y))).1.t1).length) p43_c1, .slice p43_2 (((ratS ((u * x + v * y) / (x * x + y * y)) ((v * x - u * y) / (x * x + y * y))).1.q1).length) p43_c2, .bool ((ratS ((u * x + v * y) / (x * x + y * y)) ((v * x - u * y) / (x * x + y * y))).1.b2), .slice p43_3 (((ratS ((u * x + v * y) / (x * x + y * y)) ((v * x - u * y) / (x * x + y * y))).1.t2).length) p43_c3, .slice p43_4 (((ratS ((u * x + v * y) / (x * x + y * y)) ((v * x - u * y) / (x * x + y * y))).1.q2).length) p43_c4], .int .i64 ((ratS ((u * x + v * y) / (x * x + y * y)) ((v * x - u * y) / (x * x + y * y))).2)]) hA rfl (.cons (res_cell hS ExL_isS_26 rfl 0 rfl (cs := [.bool ((ratS ((u * x + v * y) / (x * x + y * y)) ((v * x - u * y) / (x * x + y * y))).1.b1), .slice p43_1 (((ratS ((u * x + v * y) / (x * x + y * y)) ((v * x - u * y) / (x * x + y * y))).1.t1).length) p43_c1, .slice p43_2 (((ratS ((u * x + v * y) / (x * x + y * y)) ((v * x - u * y) / (x * x + y * y))).1.q1).length) p43_c2, .bool ((ratS ((u * x + v * y) / (x * x + y * y)) ((v * x - u * y) / (x * x + y * y))).1.b2), .slice p43_3 (((ratS ((u * x + v * y) / (x * x + y * y)) ((v * x - u * y) / (x * x + y * y))).1.t2).length) p43_c3, .slice p43_4 (((ratS ((u * x + v * y) / (x * x + y * y)) ((v * x - u * y) / (x * x + y * y))).1.q2).length) p43_c4]) rfl rfl) (.cons (res_tmp rfl) .nil)) rfl ?_
  exact ⟨p43_1, p43_c1, p43_2, p43_c2, p43_3, p43_c3, p43_4, p43_c4, rfl, ⟨⟨(hS.rd 3 rfl), hn44.s1.nil, hn44.s1.cap⟩, ⟨(hS.rd 2 rfl), hn44.s2.nil, hn44.s2.cap⟩, ⟨(hS.rd 1 rfl), hn44.s3.nil, hn44.s3.cap⟩, ⟨(hS.rd 0 rfl), hn44.s4.nil, hn44.s4.cap⟩⟩, hS.bel⟩
theorem divQ_any {w : World} {p q : Q6} {a1 a2 a3 a4 : Option Addr} {ac1 ac2 ac3 ac4 : Nat} (ha : Nm w p a1 ac1 a2 ac2 a3 ac3 a4 ac4) (hl : LenQ p) {u1 u2 u3 u4 : Option Addr} {uc1 uc2 uc3 uc4 : Nat} (hb : Nm w q u1 uc1 u2 uc2 u3 uc3 u4 uc4) (hm : LenQ q) : Calls Tryz.prog 54 #[numV p a1 ac1 a2 ac2 a3 ac3 a4 ac4, numV q u1 uc1 u2 uc2 u3 uc3 u4 uc4] w (AnsN w (divQ p q)) := by
  rcases sound_cases ha with h1 | ⟨u, v, rfl, hu, hv⟩
  · rw [show divQ p q = (Q6.zero, 2) from if_neg (fun k => by rw [h1] at k; cases k.1)]
    exact divE1_any ha hl hb hm h1
  · rcases sound_cases hb with h2 | ⟨x, y, rfl, hx, hy⟩
    · rw [show divQ _ q = (Q6.zero, 2) from if_neg (fun k => by rw [h2] at k; cases k.2)]
      exact divE2_any ha hl hb hm (soundQ_rat hu hv) h2
    · by_cases hz : x = 0 ∧ y = 0
      · rw [divQ_zero hu hv hx hy hz]
        exact divZ_any ha hb hu hv hx hy hz
      · rw [divQ_rat hu hv hx hy hz]
        exact divN_any ha hb hu hv hx hy hz
end Go.Proofs.YthlkbnhbmfmchaaGreat
namespace Go.Proofs.YthlkbnhbmfmchaaGreat
open Go.RowKit
set_option linter.unusedVariables false
set_option linter.unusedSimpArgs false
set_option maxRecDepth 100000
theorem ExM_is1_22 : Is1 Tryz.prog 22 := ⟨⟨_, Tryz.underlying22, rfl⟩, by kernel_rfl⟩
theorem ExM_is1_4 : Is1 Tryz.prog 4 := ⟨⟨_, Tryz.underlying4, rfl⟩, by kernel_rfl⟩
theorem ExM_fld_24_0 : FieldAt Tryz.prog 24 0 0 := ⟨_, _, Tryz.underlying24, rfl, rfl, by kernel_rfl⟩
theorem ExM_fld_24_1 : FieldAt Tryz.prog 24 1 1 := ⟨_, _, Tryz.underlying24, rfl, rfl, by kernel_rfl⟩
theorem ExM_fld_24_2 : FieldAt Tryz.prog 24 2 2 := ⟨_, _, Tryz.underlying24, rfl, rfl, by kernel_rfl⟩
theorem ExM_fld_26_0 : FieldAt Tryz.prog 26 0 0 := ⟨_, _, Tryz.underlying26, rfl, rfl, by kernel_rfl⟩
theorem ExM_isS_24 : IsS Tryz.prog 24 3 := ⟨⟨_, Tryz.underlying24⟩, by kernel_rfl⟩
theorem ExM_isS_26 : IsS Tryz.prog 26 6 := ⟨⟨_, Tryz.underlying26⟩, by kernel_rfl⟩
theorem size32_any {w : World} {a1 a2 : Option Addr} {ac1 ac2 : Nat} (ha1 : Sc w a1 ac1 [3]) (ha2 : Sc w a2 ac2 [2]) : Calls Tryz.prog 113 #[.agg #[.bool true, .slice a1 1 ac1, .slice a2 1 ac2], .int .i64 10] w fun e w' => e = .returned (.string ⟨#[51, 47, 50]⟩) ∧ Below w.heap.size w w' := by
  have hS : St w w [] [(a2, [2]), (a1, [3])] [] := ((St.start w).addR ha1.rd).addR ha2.rd
  refine walk_of (l := [(0, .agg #[.bool true, .slice a1 1 ac1, .slice a2 1 ac2]), (1, .int .i64 10)]) Tryz.func113 rfl Tryz.ntmps113 rfl rfl ?_
  intro Q hret hnorm hP a hA
  refine wp_seq_k (fun K1 hK1 => ?_)
  refine wp_region_lit ?_
  refine seq_new (vs := [.bool true, .slice a1 1 ac1, .slice a2 1 ac2]) (t := 24) hA hS rfl rfl rfl (fun g => .pointer (some ⟨g, 0, none⟩)) (does_box rfl rfl) rfl ?_
  intro g2 w3 hS a hA
  refine seq_do hA rfl rfl rfl (does_assign rfl) ?_
  intro a hA
  refine seq_end ?_
  refine hK1 _ _ ?_
  refine wp_seq_k (fun K4 hK4 => ?_)
  refine wp_region_lit ?_
  refine seq_do (v := .pointer (some ⟨g2, 1, none⟩)) hA rfl rfl rfl (does_field ExM_fld_24_1 rfl rfl) ?_
  intro a hA
  refine seq_do hA rfl rfl rfl (does_load1 hS ExM_is1_22 rfl 0 rfl rfl) ?_
  intro a hA
  refine seq_do hA rfl rfl rfl (does_move rfl) ?_
  intro a hA
  refine seq_call hA rfl rfl rfl (enters_func  rfl rfl (fun w => by kernel_rfl)) ((by have h := text_any (a := [3]) ac1 10 (hS.rd 1 rfl) (by decide) (by decide) (by decide); rw [textS_digit (by decide) (by decide)] at h; exact h)) ?_
  rintro _ w6 ⟨rfl, hb5⟩
  replace hS := hS.call hb5
  refine ⟨_, rfl, ?_⟩
  intro a hA
  refine seq_do hA rfl rfl rfl (does_move rfl) ?_
  intro a hA
  refine seq_do (v := .string (⟨#[51]⟩)) hA rfl rfl rfl (does_extract (vs := [.string (⟨#[51]⟩), .int .i64 0]) rfl rfl) ?_
  intro a hA
  refine seq_do (v := .int .i64 0) hA rfl rfl rfl (does_extract (vs := [.string (⟨#[51]⟩), .int .i64 0]) rfl rfl) ?_
  intro a hA
  refine seq_do hA rfl rfl rfl (does_assign rfl) ?_
  intro a hA
  refine seq_do hA rfl rfl rfl (does_assign rfl) ?_
  intro a hA
  refine seq_end ?_
  refine hK4 _ _ ?_
  refine wp_seq_k (fun K7 hK7 => ?_)
  refine wp_seq_k (fun K8 hK8 => ?_)
  refine wp_region_lit ?_
  refine seq_do (v := .pointer (some ⟨g2, 2, none⟩)) hA rfl rfl rfl (does_field ExM_fld_24_2 rfl rfl) ?_
  intro a hA
  refine seq_do hA rfl rfl rfl (does_load1 hS ExM_is1_22 rfl 0 rfl rfl) ?_
  intro a hA
  refine seq_call hA rfl rfl rfl (enters_func  rfl rfl (fun w => by kernel_rfl)) (isOneQ_any _ (hS.rd 0 rfl) (by decide) (show decide ([2] = [1]) = false from by decide)) ?_
  rintro _ w10 ⟨rfl, hb9⟩
  replace hb9 := below_eq hb9
  replace hS := hS.call hb9
  refine ⟨_, rfl, ?_⟩
  intro a hA
  refine seq_end ?_
  refine hK8 _ _ ?_
  refine wp_cond_false (hA.ev rfl) ?_
  refine wp_skip ?_
  refine hK7 _ _ ?_
  refine wp_seq_k (fun K11 hK11 => ?_)
  refine wp_region_lit ?_
  refine seq_do (v := .pointer (some ⟨g2, 2, none⟩)) hA rfl rfl rfl (does_field ExM_fld_24_2 rfl rfl) ?_
  intro a hA
  refine seq_do hA rfl rfl rfl (does_load1 hS ExM_is1_22 rfl 0 rfl rfl) ?_
  intro a hA
  refine seq_do hA rfl rfl rfl (does_move rfl) ?_
  intro a hA
  refine seq_call hA rfl rfl rfl (enters_func  rfl rfl (fun w => by kernel_rfl)) ((by have h := text_any (a := [2]) ac2 10 (hS.rd 0 rfl) (by decide) (by decide) (by decide); rw [textS_digit (by decide) (by decide)] at h; exact h)) ?_
  rintro _ w13 ⟨rfl, hb12⟩
  replace hS := hS.call hb12
  refine ⟨_, rfl, ?_⟩
  intro a hA
  refine seq_do hA rfl rfl rfl (does_move rfl) ?_
  intro a hA
  refine seq_do (v := .string (⟨#[50]⟩)) hA rfl rfl rfl (does_extract (vs := [.string (⟨#[50]⟩), .int .i64 0]) rfl rfl) ?_
  intro a hA
  refine seq_do (v := .int .i64 0) hA rfl rfl rfl (does_extract (vs := [.string (⟨#[50]⟩), .int .i64 0]) rfl rfl) ?_
  intro a hA
  refine seq_do hA rfl rfl rfl (does_assign rfl) ?_
  intro a hA
  refine seq_do hA rfl rfl rfl (does_assign rfl) ?_
  intro a hA
  refine seq_end ?_
  refine hK11 _ _ ?_
  refine wp_seq_k (fun K14 hK14 => ?_)
  refine wp_region_lit ?_
  refine seq_do hA rfl rfl rfl (does_move rfl) ?_
  intro a hA
  refine seq_do (v := .string (⟨#[51, 47]⟩)) hA rfl rfl rfl (does_bin rfl rfl (fun w => by kernel_rfl)) ?_
  intro a hA
  refine seq_do hA rfl rfl rfl (does_move rfl) ?_
  intro a hA
  refine seq_do (v := .string (⟨#[51, 47, 50]⟩)) hA rfl rfl rfl (does_bin rfl rfl (fun w => by kernel_rfl)) ?_
  intro a hA
  refine seq_do hA rfl rfl rfl (does_assign rfl) ?_
  intro a hA
  refine seq_end ?_
  refine hK14 _ _ ?_
  refine wp_ret ?_
  refine hret _ _ ?_
  refine ends (v := .string (⟨#[51, 47, 50]⟩)) hA rfl (.cons (res_tmp rfl) .nil) rfl ?_
  exact ⟨rfl, hS.bel⟩
theorem real32_any {w : World} {a1 a2 : Option Addr} {ac1 ac2 : Nat} (ha1 : Sc w a1 ac1 [3]) (ha2 : Sc w a2 ac2 [2]) : Calls Tryz.prog 77 #[.agg #[.bool true, .slice a1 1 ac1, .slice a2 1 ac2], .int .i64 10] w fun e w' => e = .returned (.string ⟨#[45, 51, 47, 50]⟩) ∧ Below w.heap.size w w' := by
  have hS : St w w [] [(a2, [2]), (a1, [3])] [] := ((St.start w).addR ha1.rd).addR ha2.rd
  refine walk_of (l := [(0, .agg #[.bool true, .slice a1 1 ac1, .slice a2 1 ac2]), (1, .int .i64 10)]) Tryz.func77 rfl Tryz.ntmps77 rfl rfl ?_
  intro Q hret hnorm hP a hA
  refine wp_seq_k (fun K1 hK1 => ?_)
  refine wp_region_lit ?_
  refine seq_new (vs := [.bool true, .slice a1 1 ac1, .slice a2 1 ac2]) (t := 24) hA hS rfl rfl rfl (fun g => .pointer (some ⟨g, 0, none⟩)) (does_box rfl rfl) rfl ?_
  intro g2 w3 hS a hA
  refine seq_do hA rfl rfl rfl (does_assign rfl) ?_
  intro a hA
  refine seq_end ?_
  refine hK1 _ _ ?_
  refine wp_seq_k (fun K4 hK4 => ?_)
  refine wp_seq_k (fun K5 hK5 => ?_)
  refine wp_region_lit ?_
  refine seq_do (v := .pointer (some ⟨g2, 0, none⟩)) hA rfl rfl rfl (does_field ExM_fld_24_0 rfl rfl) ?_
  intro a hA
  refine seq_do hA rfl rfl rfl (does_load1 hS ExM_is1_4 rfl 0 rfl rfl) ?_
  intro a hA
  refine seq_end ?_
  refine hK5 _ _ ?_
  refine wp_cond_true (hA.ev rfl) ?_
  refine wp_seq_k (fun K6 hK6 => ?_)
  refine wp_region_lit ?_
  refine seq_do (v := .agg #[.bool true, .slice a1 1 ac1, .slice a2 1 ac2]) hA rfl rfl rfl (does_loadS hS ExM_isS_24 rfl 0 rfl (cs := [.bool true, .slice a1 1 ac1, .slice a2 1 ac2]) rfl rfl) ?_
  intro a hA
  refine seq_do hA rfl rfl rfl (does_move rfl) ?_
  intro a hA
  refine seq_call hA rfl rfl rfl (enters_func  rfl rfl (fun w => by kernel_rfl)) (size32_any ⟨(hS.rd 1 rfl), ha1.nil, ha1.cap⟩ ⟨(hS.rd 0 rfl), ha2.nil, ha2.cap⟩) ?_
  rintro _ w8 ⟨rfl, hb7⟩
  replace hS := hS.call hb7
  refine ⟨_, rfl, ?_⟩
  intro a hA
  refine seq_do (v := .string (⟨#[45, 51, 47, 50]⟩)) hA rfl rfl rfl (does_bin rfl rfl (fun w => by kernel_rfl)) ?_
  intro a hA
  refine seq_do hA rfl rfl rfl (does_assign rfl) ?_
  intro a hA
  refine seq_end ?_
  refine hK6 _ _ ?_
  refine wp_ret ?_
  refine hret _ _ ?_
  refine ends (v := .string (⟨#[45, 51, 47, 50]⟩)) hA rfl (.cons (res_tmp rfl) .nil) rfl ?_
  exact ⟨rfl, hS.bel⟩
theorem radix10_any {w : World} : Calls Tryz.prog 76 #[.int .i64 10] w fun e w' => e = .returned (.bool true) ∧ Below w.heap.size w w' := by
  have hS : St w w [] [] [] := St.start w
  refine walk_of (l := [(0, .int .i64 10)]) Tryz.func76 rfl Tryz.ntmps76 rfl rfl ?_
  intro Q hret hnorm hP a hA
  refine wp_seq_k (fun K1 hK1 => ?_)
  refine wp_region_lit ?_
  refine seq_do hA rfl rfl rfl (does_assign rfl) ?_
  intro a hA
  refine seq_end ?_
  refine hK1 _ _ ?_
  refine wp_seq_k (fun K2 hK2 => ?_)
  refine wp_seq_k (fun K3 hK3 => ?_)
  refine wp_region_lit ?_
  refine seq_do hA rfl rfl rfl (does_move rfl) ?_
  intro a hA
  refine seq_end ?_
  refine hK3 _ _ ?_
  refine wp_block ?_
  refine wp_seq_k (fun K4 hK4 => ?_)
  refine wp_seq_k (fun K5 hK5 => ?_)
  refine wp_region_lit ?_
  refine seq_do (v := .bool false) hA rfl rfl rfl (does_bin rfl rfl (fun w => by kernel_rfl)) ?_
  intro a hA
  refine seq_do hA rfl rfl rfl (does_assign rfl) ?_
  intro a hA
  refine seq_end ?_
  refine hK5 _ _ ?_
  refine wp_cond_false (hA.ev rfl) ?_
  refine wp_seq_k (fun K6 hK6 => ?_)
  refine wp_region_lit ?_
  refine seq_do (v := .bool false) hA rfl rfl rfl (does_bin rfl rfl (fun w => by kernel_rfl)) ?_
  intro a hA
  refine seq_do hA rfl rfl rfl (does_assign rfl) ?_
  intro a hA
  refine seq_end ?_
  refine hK6 _ _ ?_
  refine wp_cond_false (hA.ev rfl) ?_
  refine wp_seq_k (fun K7 hK7 => ?_)
  refine wp_region_lit ?_
  refine seq_do (v := .bool true) hA rfl rfl rfl (does_bin rfl rfl (fun w => by kernel_rfl)) ?_
  intro a hA
  refine seq_do hA rfl rfl rfl (does_assign rfl) ?_
  intro a hA
  refine seq_end ?_
  refine hK7 _ _ ?_
  refine wp_cond_true (hA.ev rfl) ?_
  refine wp_skip ?_
  refine hK4 _ _ ?_
  refine wp_cond_true (hA.ev rfl) ?_
  refine wp_seq_k (fun K8 hK8 => ?_)
  refine wp_region_lit ?_
  refine seq_do hA rfl rfl rfl (does_assign rfl) ?_
  intro a hA
  refine seq_end ?_
  refine hK8 _ _ ?_
  refine wp_ret ?_
  refine hret _ _ ?_
  refine ends (v := .bool true) hA rfl (.cons (res_tmp rfl) .nil) rfl ?_
  exact ⟨rfl, hS.bel⟩
theorem text32_any {w : World} {a1 a2 a3 a4 : Option Addr} {ac1 ac2 ac3 ac4 : Nat} (ha : Nm w Q6.half a1 ac1 a2 ac2 a3 ac3 a4 ac4) : Calls Tryz.prog 32 #[numV Q6.half a1 ac1 a2 ac2 a3 ac3 a4 ac4, .int .i64 10] w fun e w' => e = .returned (.tuple #[.string ⟨#[45, 51, 47, 50]⟩, .int .i64 0]) ∧ Below w.heap.size w w' := by
  have hS : St w w [] [(a4, [1]), (a3, []), (a2, [2]), (a1, [3])] [] := ((((St.start w).addR ha.s1.rd).addR ha.s2.rd).addR ha.s3.rd).addR ha.s4.rd
  refine walk_of (l := [(0, .agg #[.bool true, .slice a1 1 ac1, .slice a2 1 ac2, .bool false, .slice a3 0 ac3, .slice a4 1 ac4]), (1, .int .i64 10)]) Tryz.func32 rfl Tryz.ntmps32 rfl rfl ?_
  intro Q hret hnorm hP a hA
  refine wp_seq_k (fun K1 hK1 => ?_)
  refine wp_region_lit ?_
  refine seq_new (vs := [.bool true, .slice a1 1 ac1, .slice a2 1 ac2, .bool false, .slice a3 0 ac3, .slice a4 1 ac4]) (t := 26) hA hS rfl rfl rfl (fun g => .pointer (some ⟨g, 0, none⟩)) (does_box rfl rfl) rfl ?_
  intro g2 w3 hS a hA
  refine seq_do hA rfl rfl rfl (does_assign rfl) ?_
  intro a hA
  refine seq_do hA rfl rfl rfl (does_assign rfl) ?_
  intro a hA
  refine seq_end ?_
  refine hK1 _ _ ?_
  refine wp_seq_k (fun K4 hK4 => ?_)
  refine wp_seq_k (fun K5 hK5 => ?_)
  refine wp_region_lit ?_
  refine seq_do (v := .agg #[.bool true, .slice a1 1 ac1, .slice a2 1 ac2, .bool false, .slice a3 0 ac3, .slice a4 1 ac4]) hA rfl rfl rfl (does_loadS hS ExM_isS_26 rfl 0 rfl (cs := [.bool true, .slice a1 1 ac1, .slice a2 1 ac2, .bool false, .slice a3 0 ac3, .slice a4 1 ac4]) rfl rfl) ?_
  intro a hA
  refine seq_call hA rfl rfl rfl (enters_func  rfl rfl (fun w => by kernel_rfl)) (soundQ_any (show Nm _ Q6.half a1 ac1 a2 ac2 a3 ac3 a4 ac4 from ⟨⟨(hS.rd 3 rfl), ha.s1.nil, ha.s1.cap⟩, ⟨(hS.rd 2 rfl), ha.s2.nil, ha.s2.cap⟩, ⟨(hS.rd 1 rfl), ha.s3.nil, ha.s3.cap⟩, ⟨(hS.rd 0 rfl), ha.s4.nil, ha.s4.cap⟩⟩) lenQ_half sound_half) ?_
  rintro _ w7 ⟨rfl, hb6⟩
  replace hS := hS.call hb6
  refine ⟨_, rfl, ?_⟩
  intro a hA
  refine seq_do (v := .bool false) hA rfl rfl rfl (does_un rfl un_not) ?_
  intro a hA
  refine seq_end ?_
  refine hK5 _ _ ?_
  refine wp_cond_false (hA.ev rfl) ?_
  refine wp_skip ?_
  refine hK4 _ _ ?_
  refine wp_seq_k (fun K8 hK8 => ?_)
  refine wp_seq_k (fun K9 hK9 => ?_)
  refine wp_region_lit ?_
  refine seq_do hA rfl rfl rfl (does_move rfl) ?_
  intro a hA
  refine seq_call hA rfl rfl rfl (enters_func  rfl rfl (fun w => by kernel_rfl)) (radix10_any) ?_
  rintro _ w11 ⟨rfl, hb10⟩
  replace hS := hS.call hb10
  refine ⟨_, rfl, ?_⟩
  intro a hA
  refine seq_do (v := .bool false) hA rfl rfl rfl (does_un rfl un_not) ?_
  intro a hA
  refine seq_end ?_
  refine hK9 _ _ ?_
  refine wp_cond_false (hA.ev rfl) ?_
  refine wp_skip ?_
  refine hK8 _ _ ?_
  refine wp_seq_k (fun K12 hK12 => ?_)
  refine wp_seq_k (fun K13 hK13 => ?_)
  refine wp_region_lit ?_
  refine seq_do (v := .agg #[.bool true, .slice a1 1 ac1, .slice a2 1 ac2, .bool false, .slice a3 0 ac3, .slice a4 1 ac4]) hA rfl rfl rfl (does_loadS hS ExM_isS_26 rfl 0 rfl (cs := [.bool true, .slice a1 1 ac1, .slice a2 1 ac2, .bool false, .slice a3 0 ac3, .slice a4 1 ac4]) rfl rfl) ?_
  intro a hA
  refine seq_call hA rfl rfl rfl (enters_func  rfl rfl (fun w => by kernel_rfl)) (isRealQ_any (q := Q6.half) lenQ_half (show decide (Q6.half.t2.length = 0) = true from rfl)) ?_
  rintro _ w15 ⟨rfl, hb14⟩
  replace hS := hS.call hb14
  refine ⟨_, rfl, ?_⟩
  intro a hA
  refine seq_end ?_
  refine hK13 _ _ ?_
  refine wp_cond_true (hA.ev rfl) ?_
  refine wp_seq_k (fun K16 hK16 => ?_)
  refine wp_region_lit ?_
  refine seq_do (v := .pointer (some ⟨g2, 0, none⟩)) hA rfl rfl rfl (does_field ExM_fld_26_0 rfl rfl) ?_
  intro a hA
  refine seq_do (v := .agg #[.bool true, .slice a1 1 ac1, .slice a2 1 ac2]) hA rfl rfl rfl (does_loadS hS ExM_isS_24 rfl 0 rfl (cs := [.bool true, .slice a1 1 ac1, .slice a2 1 ac2]) rfl rfl) ?_
  intro a hA
  refine seq_do hA rfl rfl rfl (does_move rfl) ?_
  intro a hA
  refine seq_call hA rfl rfl rfl (enters_func  rfl rfl (fun w => by kernel_rfl)) (real32_any ⟨(hS.rd 3 rfl), ha.s1.nil, ha.s1.cap⟩ ⟨(hS.rd 2 rfl), ha.s2.nil, ha.s2.cap⟩) ?_
  rintro _ w18 ⟨rfl, hb17⟩
  replace hS := hS.call hb17
  refine ⟨_, rfl, ?_⟩
  intro a hA
  refine seq_do hA rfl rfl rfl (does_assign rfl) ?_
  intro a hA
  refine seq_do hA rfl rfl rfl (does_assign rfl) ?_
  intro a hA
  refine seq_end ?_
  refine hK16 _ _ ?_
  refine wp_ret ?_
  refine hret _ _ ?_
  refine ends (v := .tuple #[.string (⟨#[45, 51, 47, 50]⟩), .int .i64 0]) hA rfl (.cons (res_tmp rfl) (.cons (res_tmp rfl) .nil)) rfl ?_
  exact ⟨rfl, hS.bel⟩
theorem awake3_any {w : World} : Calls Tryz.prog 16 #[] w fun e w' => e = .returned (.bool true) ∧ Below w.heap.size w w' := by
  have hS : St w w [] [] [] := St.start w
  refine walk_of (l := []) Tryz.func16 rfl Tryz.ntmps16 rfl rfl ?_
  intro Q hret hnorm hP a hA
  refine wp_seq_k (fun K1 hK1 => ?_)
  refine wp_region_lit ?_
  refine seq_do hA rfl rfl rfl (does_assign rfl) ?_
  intro a hA
  refine seq_end ?_
  refine hK1 _ _ ?_
  refine wp_seq_k (fun K2 hK2 => ?_)
  refine wp_region_lit ?_
  refine seq_call hA rfl rfl rfl (enters_func  rfl rfl (fun w => by kernel_rfl)) ((show Calls Tryz.prog 24 #[.int .i64 (6)] _ (AnsV _ (Q6.whole false 6)) from intP_any (k := 6) (by decide))) ?_
  rintro _ w6 ⟨p3_1, p3_c1, p3_2, p3_c2, p3_3, p3_c3, p3_4, p3_c4, rfl, hn4, hb5⟩
  replace hS := hS.call hb5
  replace hS := hS.addR hn4.s1.rd
  replace hS := hS.addR hn4.s2.rd
  replace hS := hS.addR hn4.s3.rd
  replace hS := hS.addR hn4.s4.rd
  refine ⟨_, rfl, ?_⟩
  intro a hA
  refine seq_call hA rfl rfl rfl (enters_func  rfl rfl (fun w => by kernel_rfl)) ((show Calls Tryz.prog 24 #[.int .i64 (-4)] _ (AnsV _ (Q6.whole true 4)) from intN_any (k := 4) (by decide) (by decide))) ?_
  rintro _ w10 ⟨p7_1, p7_c1, p7_2, p7_c2, p7_3, p7_c3, p7_4, p7_c4, rfl, hn8, hb9⟩
  replace hS := hS.call hb9
  replace hS := hS.addR hn8.s1.rd
  replace hS := hS.addR hn8.s2.rd
  replace hS := hS.addR hn8.s3.rd
  replace hS := hS.addR hn8.s4.rd
  refine ⟨_, rfl, ?_⟩
  intro a hA
  refine seq_call hA rfl rfl rfl (enters_func  rfl rfl (fun w => by kernel_rfl)) ((awake_div ▸ divQ_any (p := Q6.whole false 6) (q := Q6.whole true 4) (show Nm _ _ p3_1 p3_c1 p3_2 p3_c2 p3_3 p3_c3 p3_4 p3_c4 from ⟨⟨(hS.rd 7 rfl), hn4.s1.nil, hn4.s1.cap⟩, ⟨(hS.rd 6 rfl), hn4.s2.nil, hn4.s2.cap⟩, ⟨(hS.rd 5 rfl), hn4.s3.nil, hn4.s3.cap⟩, ⟨(hS.rd 4 rfl), hn4.s4.nil, hn4.s4.cap⟩⟩) (lenQ_whole six_len) (show Nm _ _ p7_1 p7_c1 p7_2 p7_c2 p7_3 p7_c3 p7_4 p7_c4 from ⟨⟨(hS.rd 3 rfl), hn8.s1.nil, hn8.s1.cap⟩, ⟨(hS.rd 2 rfl), hn8.s2.nil, hn8.s2.cap⟩, ⟨(hS.rd 1 rfl), hn8.s3.nil, hn8.s3.cap⟩, ⟨(hS.rd 0 rfl), hn8.s4.nil, hn8.s4.cap⟩⟩) (lenQ_whole four_len))) ?_
  rintro _ w14 ⟨p11_1, p11_c1, p11_2, p11_c2, p11_3, p11_c3, p11_4, p11_c4, rfl, hn12, hb13⟩
  replace hS := hS.call hb13
  replace hS := hS.addR hn12.s1.rd
  replace hS := hS.addR hn12.s2.rd
  replace hS := hS.addR hn12.s3.rd
  replace hS := hS.addR hn12.s4.rd
  refine ⟨_, rfl, ?_⟩
  intro a hA
  refine seq_do hA rfl rfl rfl (does_move rfl) ?_
  intro a hA
  refine seq_do (v := .agg #[.bool true, .slice p11_1 1 p11_c1, .slice p11_2 1 p11_c2, .bool false, .slice p11_3 0 p11_c3, .slice p11_4 1 p11_c4]) hA rfl rfl rfl (does_extract (vs := [.agg #[.bool true, .slice p11_1 1 p11_c1, .slice p11_2 1 p11_c2, .bool false, .slice p11_3 0 p11_c3, .slice p11_4 1 p11_c4], .int .i64 0]) rfl rfl) ?_
  intro a hA
  refine seq_do (v := .int .i64 0) hA rfl rfl rfl (does_extract (vs := [.agg #[.bool true, .slice p11_1 1 p11_c1, .slice p11_2 1 p11_c2, .bool false, .slice p11_3 0 p11_c3, .slice p11_4 1 p11_c4], .int .i64 0]) rfl rfl) ?_
  intro a hA
  refine seq_new (vs := [.bool false, .slice none 0 0, .slice none 0 0, .bool false, .slice none 0 0, .slice none 0 0]) (t := 26) hA hS rfl rfl rfl (fun g => .pointer (some ⟨g, 0, none⟩)) (does_alloc (z := .agg #[.bool false, .slice none 0 0, .slice none 0 0, .bool false, .slice none 0 0, .slice none 0 0]) (by kernel_rfl) rfl) rfl ?_
  intro g15 w16 hS a hA
  refine seq_store (us := [.bool true, .slice p11_1 1 p11_c1, .slice p11_2 1 p11_c2, .bool false, .slice p11_3 0 p11_c3, .slice p11_4 1 p11_c4]) hA hS rfl rfl (sets_store (cs := [.bool true, .slice p11_1 1 p11_c1, .slice p11_2 1 p11_c2, .bool false, .slice p11_3 0 p11_c3, .slice p11_4 1 p11_c4]) rfl rfl rfl (by kernel_rfl) hS 0 rfl rfl rfl) 0 rfl rfl rfl rfl ?_
  intro w17 hS
  refine seq_do hA rfl rfl rfl (does_assign rfl) ?_
  intro a hA
  refine seq_end ?_
  refine hK2 _ _ ?_
  refine wp_seq_k (fun K18 hK18 => ?_)
  refine wp_region_lit ?_
  refine seq_do (v := .agg #[.bool true, .slice p11_1 1 p11_c1, .slice p11_2 1 p11_c2, .bool false, .slice p11_3 0 p11_c3, .slice p11_4 1 p11_c4]) hA rfl rfl rfl (does_loadS hS ExM_isS_26 rfl 0 rfl (cs := [.bool true, .slice p11_1 1 p11_c1, .slice p11_2 1 p11_c2, .bool false, .slice p11_3 0 p11_c3, .slice p11_4 1 p11_c4]) rfl rfl) ?_
  intro a hA
  refine seq_call hA rfl rfl rfl (enters_func  rfl rfl (fun w => by kernel_rfl)) (text32_any (show Nm _ Q6.half p11_1 p11_c1 p11_2 p11_c2 p11_3 p11_c3 p11_4 p11_c4 from ⟨⟨(hS.rd 3 rfl), hn12.s1.nil, hn12.s1.cap⟩, ⟨(hS.rd 2 rfl), hn12.s2.nil, hn12.s2.cap⟩, ⟨(hS.rd 1 rfl), hn12.s3.nil, hn12.s3.cap⟩, ⟨(hS.rd 0 rfl), hn12.s4.nil, hn12.s4.cap⟩⟩)) ?_
  rintro _ w20 ⟨rfl, hb19⟩
  replace hS := hS.call hb19
  refine ⟨_, rfl, ?_⟩
  intro a hA
  refine seq_do hA rfl rfl rfl (does_move rfl) ?_
  intro a hA
  refine seq_do (v := .string (⟨#[45, 51, 47, 50]⟩)) hA rfl rfl rfl (does_extract (vs := [.string (⟨#[45, 51, 47, 50]⟩), .int .i64 0]) rfl rfl) ?_
  intro a hA
  refine seq_do (v := .int .i64 0) hA rfl rfl rfl (does_extract (vs := [.string (⟨#[45, 51, 47, 50]⟩), .int .i64 0]) rfl rfl) ?_
  intro a hA
  refine seq_do hA rfl rfl rfl (does_assign rfl) ?_
  intro a hA
  refine seq_do hA rfl rfl rfl (does_assign rfl) ?_
  intro a hA
  refine seq_end ?_
  refine hK18 _ _ ?_
  refine wp_seq_k (fun K21 hK21 => ?_)
  refine wp_region_lit ?_
  refine seq_do hA rfl rfl rfl (does_move rfl) ?_
  intro a hA
  refine seq_do (v := .bool true) hA rfl rfl rfl (does_bin rfl rfl (fun w => by kernel_rfl)) ?_
  intro a hA
  refine seq_do hA rfl rfl rfl (does_move rfl) ?_
  intro a hA
  refine seq_do hA rfl rfl rfl (does_move rfl) ?_
  intro a hA
  refine seq_do (v := .bool true) hA rfl rfl rfl (does_bin rfl rfl (fun w => by kernel_rfl)) ?_
  intro a hA
  refine seq_do (v := .bool true) hA rfl rfl rfl (does_pick rfl rfl rfl rfl) ?_
  intro a hA
  refine seq_do hA rfl rfl rfl (does_move rfl) ?_
  intro a hA
  refine seq_do hA rfl rfl rfl (does_move rfl) ?_
  intro a hA
  refine seq_do (v := .bool true) hA rfl rfl rfl (does_bin rfl rfl (fun w => by kernel_rfl)) ?_
  intro a hA
  refine seq_do (v := .bool true) hA rfl rfl rfl (does_pick rfl rfl rfl rfl) ?_
  intro a hA
  refine seq_do hA rfl rfl rfl (does_assign rfl) ?_
  intro a hA
  refine seq_end ?_
  refine hK21 _ _ ?_
  refine wp_ret ?_
  refine hret _ _ ?_
  refine ends (v := .bool true) hA rfl (.cons (res_tmp rfl) .nil) rfl ?_
  exact ⟨rfl, hS.bel⟩
end Go.Proofs.YthlkbnhbmfmchaaGreat
namespace Go.Proofs.YthlkbnhbmfmchaaGreat
open Go.RowKit
set_option linter.unusedVariables false
set_option linter.unusedSimpArgs false
set_option maxRecDepth 100000

theorem addQ_as {w : World} {p q : Q6} {a1 a2 a3 a4 : Option Addr} {ac1 ac2 ac3 ac4 : Nat} (ha : Nm w p a1 ac1 a2 ac2 a3 ac3 a4 ac4) (hl : LenQ p) {u1 u2 u3 u4 : Option Addr} {uc1 uc2 uc3 uc4 : Nat} (hb : Nm w q u1 uc1 u2 uc2 u3 uc3 u4 uc4) (hm : LenQ q) {z : Q6 × Int} (hz : addQ p q = z) : Calls Tryz.prog 8 #[numV p a1 ac1 a2 ac2 a3 ac3 a4 ac4, numV q u1 uc1 u2 uc2 u3 uc3 u4 uc4] w (AnsN w z) := hz ▸ addQ_any ha hl hb hm
theorem subQ_as {w : World} {p q : Q6} {a1 a2 a3 a4 : Option Addr} {ac1 ac2 ac3 ac4 : Nat} (ha : Nm w p a1 ac1 a2 ac2 a3 ac3 a4 ac4) (hl : LenQ p) {u1 u2 u3 u4 : Option Addr} {uc1 uc2 uc3 uc4 : Nat} (hb : Nm w q u1 uc1 u2 uc2 u3 uc3 u4 uc4) (hm : LenQ q) {z : Q6 × Int} (hz : subQ p q = z) : Calls Tryz.prog 10 #[numV p a1 ac1 a2 ac2 a3 ac3 a4 ac4, numV q u1 uc1 u2 uc2 u3 uc3 u4 uc4] w (AnsN w z) := hz ▸ subQ_any ha hl hb hm
end Go.Proofs.YthlkbnhbmfmchaaGreat
namespace Go.Proofs.YthlkbnhbmfmchaaGreat
open Go.RowKit
set_option linter.unusedVariables false
set_option linter.unusedSimpArgs false
set_option maxRecDepth 100000
theorem RfA_is1_22 : Is1 Tryz.prog 22 := ⟨⟨_, Tryz.underlying22, rfl⟩, by kernel_rfl⟩
theorem RfA_fld_24_1 : FieldAt Tryz.prog 24 1 1 := ⟨_, _, Tryz.underlying24, rfl, rfl, by kernel_rfl⟩
theorem RfA_fld_24_2 : FieldAt Tryz.prog 24 2 2 := ⟨_, _, Tryz.underlying24, rfl, rfl, by kernel_rfl⟩
theorem RfA_fld_26_0 : FieldAt Tryz.prog 26 0 0 := ⟨_, _, Tryz.underlying26, rfl, rfl, by kernel_rfl⟩
theorem RfA_fld_26_1 : FieldAt Tryz.prog 26 1 3 := ⟨_, _, Tryz.underlying26, rfl, rfl, by kernel_rfl⟩
theorem RfA_isS_26 : IsS Tryz.prog 26 6 := ⟨⟨_, Tryz.underlying26⟩, by kernel_rfl⟩
theorem rlarge_any {w : World} {u v : Rat} {a1 a2 a3 a4 : Option Addr} {ac1 ac2 ac3 ac4 : Nat} (ha : Nm w (Q6.rat u v) a1 ac1 a2 ac2 a3 ac3 a4 ac4) (LR_u : LenR 9000 u) (LR_v : LenR 9000 v) {r : Bool} (hr : decide (¬ (fitR u ∧ fitR v)) = r) : Calls Tryz.prog 70 #[numV (Q6.rat u v) a1 ac1 a2 ac2 a3 ac3 a4 ac4] w fun e w' => e = .returned (.bool r) ∧ Below w.heap.size w w' := by
  have k1 := LR_u.1
  have k2 := LR_u.2
  have k3 := LR_v.1
  have k4 := LR_v.2
  have hS : St w w [] [(a4, words v.den), (a3, words v.num.natAbs), (a2, words u.den), (a1, words u.num.natAbs)] [] := ((((St.start w).addR ha.s1.rd).addR ha.s2.rd).addR ha.s3.rd).addR ha.s4.rd
  refine walk_of (l := [(0, .agg #[.bool (rb u.num), .slice a1 ((words u.num.natAbs).length) ac1, .slice a2 ((words u.den).length) ac2, .bool (rb v.num), .slice a3 ((words v.num.natAbs).length) ac3, .slice a4 ((words v.den).length) ac4])]) Tryz.func70 rfl Tryz.ntmps70 rfl rfl ?_
  intro Q hret hnorm hP a hA
  refine wp_seq_k (fun K1 hK1 => ?_)
  refine wp_region_lit ?_
  refine seq_new (vs := [.bool (rb u.num), .slice a1 ((words u.num.natAbs).length) ac1, .slice a2 ((words u.den).length) ac2, .bool (rb v.num), .slice a3 ((words v.num.natAbs).length) ac3, .slice a4 ((words v.den).length) ac4]) (t := 26) hA hS rfl rfl rfl (fun g => .pointer (some ⟨g, 0, none⟩)) (does_box rfl rfl) rfl ?_
  intro g2 w3 hS a hA
  refine seq_do hA rfl rfl rfl (does_assign rfl) ?_
  intro a hA
  refine seq_end ?_
  refine hK1 _ _ ?_
  refine wp_seq_k (fun K4 hK4 => ?_)
  refine wp_region_lit ?_
  refine seq_do (v := .pointer (some ⟨g2, 0, none⟩)) hA rfl rfl rfl (does_field RfA_fld_26_0 rfl rfl) ?_
  intro a hA
  refine seq_do (v := .pointer (some ⟨g2, 1, none⟩)) hA rfl rfl rfl (does_field RfA_fld_24_1 rfl rfl) ?_
  intro a hA
  refine seq_do hA rfl rfl rfl (does_load1 hS RfA_is1_22 rfl 0 rfl rfl) ?_
  intro a hA
  refine seq_do (v := .int .i64 ((((words u.num.natAbs).length : Nat) : Int))) hA rfl rfl rfl (does_len Tryz.underlying22 rfl) ?_
  intro a hA
  rcases Bool.eq_false_or_eq_true (decide (512 < (((words u.num.natAbs).length : Nat) : Int))) with hb5 | hb5
  · have hb5' := of_decide_eq_true hb5
    refine seq_do (v := .bool true) hA rfl rfl rfl (does_bin rfl rfl (fun w => (bin_gtr w).trans (by rw [hb5]))) ?_
    intro a hA
    refine seq_do hA rfl rfl rfl (does_move rfl) ?_
    intro a hA
    refine seq_skip hA rfl rfl rfl ?_
    intro a hA
    refine seq_skip hA rfl rfl rfl ?_
    intro a hA
    refine seq_skip hA rfl rfl rfl ?_
    intro a hA
    refine seq_skip hA rfl rfl rfl ?_
    intro a hA
    refine seq_skip hA rfl rfl rfl ?_
    intro a hA
    refine seq_do (v := .bool true) hA rfl rfl rfl (does_pick rfl rfl rfl rfl) ?_
    intro a hA
    refine seq_do hA rfl rfl rfl (does_move rfl) ?_
    intro a hA
    refine seq_skip hA rfl rfl rfl ?_
    intro a hA
    refine seq_skip hA rfl rfl rfl ?_
    intro a hA
    refine seq_skip hA rfl rfl rfl ?_
    intro a hA
    refine seq_skip hA rfl rfl rfl ?_
    intro a hA
    refine seq_skip hA rfl rfl rfl ?_
    intro a hA
    refine seq_do (v := .bool true) hA rfl rfl rfl (does_pick rfl rfl rfl rfl) ?_
    intro a hA
    refine seq_do hA rfl rfl rfl (does_move rfl) ?_
    intro a hA
    refine seq_skip hA rfl rfl rfl ?_
    intro a hA
    refine seq_skip hA rfl rfl rfl ?_
    intro a hA
    refine seq_skip hA rfl rfl rfl ?_
    intro a hA
    refine seq_skip hA rfl rfl rfl ?_
    intro a hA
    refine seq_skip hA rfl rfl rfl ?_
    intro a hA
    refine seq_do (v := .bool true) hA rfl rfl rfl (does_pick rfl rfl rfl rfl) ?_
    intro a hA
    refine seq_do hA rfl rfl rfl (does_assign rfl) ?_
    intro a hA
    refine seq_end ?_
    refine hK4 _ _ ?_
    refine wp_ret ?_
    refine hret _ _ ?_
    refine ends (v := .bool true) hA rfl (.cons (res_tmp rfl) .nil) rfl ?_
    subst hr
    exact ⟨by rw [decide_eq_true (show ¬ (fitR u ∧ fitR v) from fun k => by have := k.1.1; have := k.1.2; have := k.2.1; have := k.2.2; omega)], hS.bel⟩
  · have hb5' := of_decide_eq_false hb5
    refine seq_do (v := .bool false) hA rfl rfl rfl (does_bin rfl rfl (fun w => (bin_gtr w).trans (by rw [hb5]))) ?_
    intro a hA
    refine seq_do hA rfl rfl rfl (does_move rfl) ?_
    intro a hA
    refine seq_do (v := .pointer (some ⟨g2, 0, none⟩)) hA rfl rfl rfl (does_field RfA_fld_26_0 rfl rfl) ?_
    intro a hA
    refine seq_do (v := .pointer (some ⟨g2, 2, none⟩)) hA rfl rfl rfl (does_field RfA_fld_24_2 rfl rfl) ?_
    intro a hA
    refine seq_do hA rfl rfl rfl (does_load1 hS RfA_is1_22 rfl 0 rfl rfl) ?_
    intro a hA
    refine seq_do (v := .int .i64 ((((words u.den).length : Nat) : Int))) hA rfl rfl rfl (does_len Tryz.underlying22 rfl) ?_
    intro a hA
    rcases Bool.eq_false_or_eq_true (decide (512 < (((words u.den).length : Nat) : Int))) with hb6 | hb6
    · have hb6' := of_decide_eq_true hb6
      refine seq_do (v := .bool true) hA rfl rfl rfl (does_bin rfl rfl (fun w => (bin_gtr w).trans (by rw [hb6]))) ?_
      intro a hA
      refine seq_do (v := .bool true) hA rfl rfl rfl (does_pick rfl rfl rfl rfl) ?_
      intro a hA
      refine seq_do hA rfl rfl rfl (does_move rfl) ?_
      intro a hA
      refine seq_skip hA rfl rfl rfl ?_
      intro a hA
      refine seq_skip hA rfl rfl rfl ?_
      intro a hA
      refine seq_skip hA rfl rfl rfl ?_
      intro a hA
      refine seq_skip hA rfl rfl rfl ?_
      intro a hA
      refine seq_skip hA rfl rfl rfl ?_
      intro a hA
      refine seq_do (v := .bool true) hA rfl rfl rfl (does_pick rfl rfl rfl rfl) ?_
      intro a hA
      refine seq_do hA rfl rfl rfl (does_move rfl) ?_
      intro a hA
      refine seq_skip hA rfl rfl rfl ?_
      intro a hA
      refine seq_skip hA rfl rfl rfl ?_
      intro a hA
      refine seq_skip hA rfl rfl rfl ?_
      intro a hA
      refine seq_skip hA rfl rfl rfl ?_
      intro a hA
      refine seq_skip hA rfl rfl rfl ?_
      intro a hA
      refine seq_do (v := .bool true) hA rfl rfl rfl (does_pick rfl rfl rfl rfl) ?_
      intro a hA
      refine seq_do hA rfl rfl rfl (does_assign rfl) ?_
      intro a hA
      refine seq_end ?_
      refine hK4 _ _ ?_
      refine wp_ret ?_
      refine hret _ _ ?_
      refine ends (v := .bool true) hA rfl (.cons (res_tmp rfl) .nil) rfl ?_
      subst hr
      exact ⟨by rw [decide_eq_true (show ¬ (fitR u ∧ fitR v) from fun k => by have := k.1.1; have := k.1.2; have := k.2.1; have := k.2.2; omega)], hS.bel⟩
    · have hb6' := of_decide_eq_false hb6
      refine seq_do (v := .bool false) hA rfl rfl rfl (does_bin rfl rfl (fun w => (bin_gtr w).trans (by rw [hb6]))) ?_
      intro a hA
      refine seq_do (v := .bool false) hA rfl rfl rfl (does_pick rfl rfl rfl rfl) ?_
      intro a hA
      refine seq_do hA rfl rfl rfl (does_move rfl) ?_
      intro a hA
      refine seq_do (v := .pointer (some ⟨g2, 3, none⟩)) hA rfl rfl rfl (does_field RfA_fld_26_1 rfl rfl) ?_
      intro a hA
      refine seq_do (v := .pointer (some ⟨g2, 4, none⟩)) hA rfl rfl rfl (does_field RfA_fld_24_1 rfl rfl) ?_
      intro a hA
      refine seq_do hA rfl rfl rfl (does_load1 hS RfA_is1_22 rfl 0 rfl rfl) ?_
      intro a hA
      refine seq_do (v := .int .i64 ((((words v.num.natAbs).length : Nat) : Int))) hA rfl rfl rfl (does_len Tryz.underlying22 rfl) ?_
      intro a hA
      rcases Bool.eq_false_or_eq_true (decide (512 < (((words v.num.natAbs).length : Nat) : Int))) with hb7 | hb7
      · have hb7' := of_decide_eq_true hb7
        refine seq_do (v := .bool true) hA rfl rfl rfl (does_bin rfl rfl (fun w => (bin_gtr w).trans (by rw [hb7]))) ?_
        intro a hA
        refine seq_do (v := .bool true) hA rfl rfl rfl (does_pick rfl rfl rfl rfl) ?_
        intro a hA
        refine seq_do hA rfl rfl rfl (does_move rfl) ?_
        intro a hA
        refine seq_skip hA rfl rfl rfl ?_
        intro a hA
        refine seq_skip hA rfl rfl rfl ?_
        intro a hA
        refine seq_skip hA rfl rfl rfl ?_
        intro a hA
        refine seq_skip hA rfl rfl rfl ?_
        intro a hA
        refine seq_skip hA rfl rfl rfl ?_
        intro a hA
        refine seq_do (v := .bool true) hA rfl rfl rfl (does_pick rfl rfl rfl rfl) ?_
        intro a hA
        refine seq_do hA rfl rfl rfl (does_assign rfl) ?_
        intro a hA
        refine seq_end ?_
        refine hK4 _ _ ?_
        refine wp_ret ?_
        refine hret _ _ ?_
        refine ends (v := .bool true) hA rfl (.cons (res_tmp rfl) .nil) rfl ?_
        subst hr
        exact ⟨by rw [decide_eq_true (show ¬ (fitR u ∧ fitR v) from fun k => by have := k.1.1; have := k.1.2; have := k.2.1; have := k.2.2; omega)], hS.bel⟩
      · have hb7' := of_decide_eq_false hb7
        refine seq_do (v := .bool false) hA rfl rfl rfl (does_bin rfl rfl (fun w => (bin_gtr w).trans (by rw [hb7]))) ?_
        intro a hA
        refine seq_do (v := .bool false) hA rfl rfl rfl (does_pick rfl rfl rfl rfl) ?_
        intro a hA
        refine seq_do hA rfl rfl rfl (does_move rfl) ?_
        intro a hA
        refine seq_do (v := .pointer (some ⟨g2, 3, none⟩)) hA rfl rfl rfl (does_field RfA_fld_26_1 rfl rfl) ?_
        intro a hA
        refine seq_do (v := .pointer (some ⟨g2, 5, none⟩)) hA rfl rfl rfl (does_field RfA_fld_24_2 rfl rfl) ?_
        intro a hA
        refine seq_do hA rfl rfl rfl (does_load1 hS RfA_is1_22 rfl 0 rfl rfl) ?_
        intro a hA
        refine seq_do (v := .int .i64 ((((words v.den).length : Nat) : Int))) hA rfl rfl rfl (does_len Tryz.underlying22 rfl) ?_
        intro a hA
        rcases Bool.eq_false_or_eq_true (decide (512 < (((words v.den).length : Nat) : Int))) with hb8 | hb8
        · have hb8' := of_decide_eq_true hb8
          refine seq_do (v := .bool true) hA rfl rfl rfl (does_bin rfl rfl (fun w => (bin_gtr w).trans (by rw [hb8]))) ?_
          intro a hA
          refine seq_do (v := .bool true) hA rfl rfl rfl (does_pick rfl rfl rfl rfl) ?_
          intro a hA
          refine seq_do hA rfl rfl rfl (does_assign rfl) ?_
          intro a hA
          refine seq_end ?_
          refine hK4 _ _ ?_
          refine wp_ret ?_
          refine hret _ _ ?_
          refine ends (v := .bool true) hA rfl (.cons (res_tmp rfl) .nil) rfl ?_
          subst hr
          exact ⟨by rw [decide_eq_true (show ¬ (fitR u ∧ fitR v) from fun k => by have := k.1.1; have := k.1.2; have := k.2.1; have := k.2.2; omega)], hS.bel⟩
        · have hb8' := of_decide_eq_false hb8
          refine seq_do (v := .bool false) hA rfl rfl rfl (does_bin rfl rfl (fun w => (bin_gtr w).trans (by rw [hb8]))) ?_
          intro a hA
          refine seq_do (v := .bool false) hA rfl rfl rfl (does_pick rfl rfl rfl rfl) ?_
          intro a hA
          refine seq_do hA rfl rfl rfl (does_assign rfl) ?_
          intro a hA
          refine seq_end ?_
          refine hK4 _ _ ?_
          refine wp_ret ?_
          refine hret _ _ ?_
          refine ends (v := .bool false) hA rfl (.cons (res_tmp rfl) .nil) rfl ?_
          subst hr
          exact ⟨by rw [decide_eq_false (show ¬ ¬ (fitR u ∧ fitR v) from fun k => k ⟨⟨by omega, by omega⟩, ⟨by omega, by omega⟩⟩)], hS.bel⟩
theorem rfit_any {w : World} {u v : Rat} {a1 a2 a3 a4 : Option Addr} {ac1 ac2 ac3 ac4 : Nat} (ha : Nm w (Q6.rat u v) a1 ac1 a2 ac2 a3 ac3 a4 ac4) (LR_u : LenR 9000 u) (LR_v : LenR 9000 v) : Calls Tryz.prog 38 #[numV (Q6.rat u v) a1 ac1 a2 ac2 a3 ac3 a4 ac4] w (AnsN w (ratS u v)) := by
  have hS : St w w [] [(a4, words v.den), (a3, words v.num.natAbs), (a2, words u.den), (a1, words u.num.natAbs)] [] := ((((St.start w).addR ha.s1.rd).addR ha.s2.rd).addR ha.s3.rd).addR ha.s4.rd
  refine walk_of (l := [(0, .agg #[.bool (rb u.num), .slice a1 ((words u.num.natAbs).length) ac1, .slice a2 ((words u.den).length) ac2, .bool (rb v.num), .slice a3 ((words v.num.natAbs).length) ac3, .slice a4 ((words v.den).length) ac4])]) Tryz.func38 rfl Tryz.ntmps38 rfl rfl ?_
  intro Q hret hnorm hP a hA
  refine wp_seq_k (fun K1 hK1 => ?_)
  refine wp_region_lit ?_
  refine seq_new (vs := [.bool (rb u.num), .slice a1 ((words u.num.natAbs).length) ac1, .slice a2 ((words u.den).length) ac2, .bool (rb v.num), .slice a3 ((words v.num.natAbs).length) ac3, .slice a4 ((words v.den).length) ac4]) (t := 26) hA hS rfl rfl rfl (fun g => .pointer (some ⟨g, 0, none⟩)) (does_box rfl rfl) rfl ?_
  intro g2 w3 hS a hA
  refine seq_new (vs := [.bool false, .slice none 0 0, .slice none 0 0, .bool false, .slice none 0 0, .slice none 0 0]) (t := 26) hA hS rfl rfl rfl (fun g => .pointer (some ⟨g, 0, none⟩)) (does_alloc (z := .agg #[.bool false, .slice none 0 0, .slice none 0 0, .bool false, .slice none 0 0, .slice none 0 0]) (by kernel_rfl) rfl) rfl ?_
  intro g4 w5 hS a hA
  refine seq_do hA rfl rfl rfl (does_assign rfl) ?_
  intro a hA
  refine seq_end ?_
  refine hK1 _ _ ?_
  refine wp_seq_k (fun K6 hK6 => ?_)
  refine wp_seq_k (fun K7 hK7 => ?_)
  refine wp_region_lit ?_
  refine seq_do (v := .agg #[.bool (rb u.num), .slice a1 ((words u.num.natAbs).length) ac1, .slice a2 ((words u.den).length) ac2, .bool (rb v.num), .slice a3 ((words v.num.natAbs).length) ac3, .slice a4 ((words v.den).length) ac4]) hA rfl rfl rfl (does_loadS hS RfA_isS_26 rfl 1 rfl (cs := [.bool (rb u.num), .slice a1 ((words u.num.natAbs).length) ac1, .slice a2 ((words u.den).length) ac2, .bool (rb v.num), .slice a3 ((words v.num.natAbs).length) ac3, .slice a4 ((words v.den).length) ac4]) rfl rfl) ?_
  intro a hA
  rcases Bool.eq_false_or_eq_true (decide (¬ (fitR u ∧ fitR v))) with hb8 | hb8
  · have hb8' := of_decide_eq_true hb8
    refine seq_call hA rfl rfl rfl (enters_func  rfl rfl (fun w => by kernel_rfl)) (rlarge_any (show Nm _ (Q6.rat u v) a1 ac1 a2 ac2 a3 ac3 a4 ac4 from ⟨⟨(hS.rd 3 rfl), ha.s1.nil, ha.s1.cap⟩, ⟨(hS.rd 2 rfl), ha.s2.nil, ha.s2.cap⟩, ⟨(hS.rd 1 rfl), ha.s3.nil, ha.s3.cap⟩, ⟨(hS.rd 0 rfl), ha.s4.nil, ha.s4.cap⟩⟩) LR_u LR_v hb8) ?_
    rintro _ w10 ⟨rfl, hb9⟩
    replace hS := hS.call hb9
    refine ⟨_, rfl, ?_⟩
    intro a hA
    refine seq_end ?_
    refine hK7 _ _ ?_
    refine wp_cond_true (hA.ev rfl) ?_
    refine wp_seq_k (fun K11 hK11 => ?_)
    refine wp_region_lit ?_
    refine seq_do (v := .agg #[.bool false, .slice none 0 0, .slice none 0 0, .bool false, .slice none 0 0, .slice none 0 0]) hA rfl rfl rfl (does_build rfl (fun w => by kernel_rfl)) ?_
    intro a hA
    refine seq_store (us := [.bool false, .slice none 0 0, .slice none 0 0, .bool false, .slice none 0 0, .slice none 0 0]) hA hS rfl rfl (sets_store (cs := [.bool false, .slice none 0 0, .slice none 0 0, .bool false, .slice none 0 0, .slice none 0 0]) rfl rfl rfl (by kernel_rfl) hS 0 rfl rfl rfl) 0 rfl rfl rfl rfl ?_
    intro w12 hS
    refine seq_do hA rfl rfl rfl (does_assign rfl) ?_
    intro a hA
    refine seq_end ?_
    refine hK11 _ _ ?_
    refine wp_ret ?_
    refine hret _ _ ?_
    refine ends (v := .tuple #[.agg #[.bool false, .slice none 0 0, .slice none 0 0, .bool false, .slice none 0 0, .slice none 0 0], .int .i64 4]) hA rfl (.cons (res_cell hS RfA_isS_26 rfl 0 rfl (cs := [.bool false, .slice none 0 0, .slice none 0 0, .bool false, .slice none 0 0, .slice none 0 0]) rfl rfl) (.cons (res_tmp rfl) .nil)) rfl ?_
    rw [show ratS u v = (Q6.zero, 4) from if_neg (of_decide_eq_true hb8)]
    exact ⟨none, 0, none, 0, none, 0, none, 0, rfl, ⟨(Sc.none _), (Sc.none _), (Sc.none _), (Sc.none _)⟩, hS.bel⟩
  · have hb8' := of_decide_eq_false hb8
    refine seq_call hA rfl rfl rfl (enters_func  rfl rfl (fun w => by kernel_rfl)) (rlarge_any (show Nm _ (Q6.rat u v) a1 ac1 a2 ac2 a3 ac3 a4 ac4 from ⟨⟨(hS.rd 3 rfl), ha.s1.nil, ha.s1.cap⟩, ⟨(hS.rd 2 rfl), ha.s2.nil, ha.s2.cap⟩, ⟨(hS.rd 1 rfl), ha.s3.nil, ha.s3.cap⟩, ⟨(hS.rd 0 rfl), ha.s4.nil, ha.s4.cap⟩⟩) LR_u LR_v hb8) ?_
    rintro _ w14 ⟨rfl, hb13⟩
    replace hS := hS.call hb13
    refine ⟨_, rfl, ?_⟩
    intro a hA
    refine seq_end ?_
    refine hK7 _ _ ?_
    refine wp_cond_false (hA.ev rfl) ?_
    refine wp_skip ?_
    refine hK6 _ _ ?_
    refine wp_seq_k (fun K15 hK15 => ?_)
    refine wp_region_lit ?_
    refine seq_do (v := .agg #[.bool (rb u.num), .slice a1 ((words u.num.natAbs).length) ac1, .slice a2 ((words u.den).length) ac2, .bool (rb v.num), .slice a3 ((words v.num.natAbs).length) ac3, .slice a4 ((words v.den).length) ac4]) hA rfl rfl rfl (does_loadS hS RfA_isS_26 rfl 1 rfl (cs := [.bool (rb u.num), .slice a1 ((words u.num.natAbs).length) ac1, .slice a2 ((words u.den).length) ac2, .bool (rb v.num), .slice a3 ((words v.num.natAbs).length) ac3, .slice a4 ((words v.den).length) ac4]) rfl rfl) ?_
    intro a hA
    refine seq_store (us := [.bool (rb u.num), .slice a1 ((words u.num.natAbs).length) ac1, .slice a2 ((words u.den).length) ac2, .bool (rb v.num), .slice a3 ((words v.num.natAbs).length) ac3, .slice a4 ((words v.den).length) ac4]) hA hS rfl rfl (sets_store (cs := [.bool (rb u.num), .slice a1 ((words u.num.natAbs).length) ac1, .slice a2 ((words u.den).length) ac2, .bool (rb v.num), .slice a3 ((words v.num.natAbs).length) ac3, .slice a4 ((words v.den).length) ac4]) rfl rfl rfl (by kernel_rfl) hS 0 rfl rfl rfl) 0 rfl rfl rfl rfl ?_
    intro w16 hS
    refine seq_do hA rfl rfl rfl (does_assign rfl) ?_
    intro a hA
    refine seq_end ?_
    refine hK15 _ _ ?_
    refine wp_ret ?_
    refine hret _ _ ?_
    refine ends (v := .tuple #[.agg #[.bool (rb u.num), .slice a1 ((words u.num.natAbs).length) ac1, .slice a2 ((words u.den).length) ac2, .bool (rb v.num), .slice a3 ((words v.num.natAbs).length) ac3, .slice a4 ((words v.den).length) ac4], .int .i64 0]) hA rfl (.cons (res_cell hS RfA_isS_26 rfl 0 rfl (cs := [.bool (rb u.num), .slice a1 ((words u.num.natAbs).length) ac1, .slice a2 ((words u.den).length) ac2, .bool (rb v.num), .slice a3 ((words v.num.natAbs).length) ac3, .slice a4 ((words v.den).length) ac4]) rfl rfl) (.cons (res_tmp rfl) .nil)) rfl ?_
    rw [show ratS u v = (Q6.rat u v, 0) from if_pos (Decidable.not_not.1 (of_decide_eq_false hb8))]
    exact ⟨a1, ac1, a2, ac2, a3, ac3, a4, ac4, rfl, ⟨⟨(hS.rd 3 rfl), ha.s1.nil, ha.s1.cap⟩, ⟨(hS.rd 2 rfl), ha.s2.nil, ha.s2.cap⟩, ⟨(hS.rd 1 rfl), ha.s3.nil, ha.s3.cap⟩, ⟨(hS.rd 0 rfl), ha.s4.nil, ha.s4.cap⟩⟩, hS.bel⟩
end Go.Proofs.YthlkbnhbmfmchaaGreat
namespace Go.Proofs.YthlkbnhbmfmchaaGreat
open Go.RowKit
set_option linter.unusedVariables false
set_option linter.unusedSimpArgs false

end Go.Proofs.YthlkbnhbmfmchaaGreat
namespace Go.Proofs.YthlkbnhbmfmchaaGreat
open Go.RowKit
set_option linter.unusedVariables false
set_option linter.unusedSimpArgs false
set_option maxRecDepth 100000


end Go.Proofs.YthlkbnhbmfmchaaGreat
namespace Go.Proofs.YthlkbnhbmfmchaaGreat
open Go.RowKit
set_option linter.unusedVariables false
set_option linter.unusedSimpArgs false

end Go.Proofs.YthlkbnhbmfmchaaGreat
namespace Go.Proofs.YthlkbnhbmfmchaaGreat
open Go.RowKit
set_option linter.unusedVariables false
set_option linter.unusedSimpArgs false
set_option maxRecDepth 100000
theorem BiF_isS_24 : IsS Tryz.prog 24 3 := ⟨⟨_, Tryz.underlying24⟩, by kernel_rfl⟩
theorem rzero_any (w : World) : Calls Tryz.prog 61 #[] w (AnsF w false [] [1]) := by
  have hS : St w w [] [] [] := St.start w
  refine walk_of (l := []) Tryz.func61 rfl Tryz.ntmps61 rfl rfl ?_
  intro Q hret hnorm hP a hA
  refine wp_seq_k (fun K1 hK1 => ?_)
  refine wp_region_lit ?_
  refine seq_new (vs := [.bool false, .slice none 0 0, .slice none 0 0]) (t := 24) hA hS rfl rfl rfl (fun g => .pointer (some ⟨g, 0, none⟩)) (does_alloc (z := .agg #[.bool false, .slice none 0 0, .slice none 0 0]) (by kernel_rfl) rfl) rfl ?_
  intro g2 w3 hS a hA
  refine seq_end ?_
  refine hK1 _ _ ?_
  refine wp_seq_k (fun K4 hK4 => ?_)
  refine wp_region_lit ?_
  refine seq_newU (us := [1]) (t := 66) (m := 1) hA hS rfl rfl rfl (does_buildSlice rfl (by kernel_rfl)) (by simp [Dig]) ?_
  intro g5 w6 hS a hA
  refine seq_do (v := .agg #[.bool false, .slice none 0 0, .slice (some ⟨g5, 0, none⟩) 1 1]) hA rfl rfl rfl (does_build rfl (fun w => by kernel_rfl)) ?_
  intro a hA
  refine seq_store (us := [.bool false, .slice none 0 0, .slice (some ⟨g5, 0, none⟩) 1 1]) hA hS rfl rfl (sets_store (cs := [.bool false, .slice none 0 0, .slice (some ⟨g5, 0, none⟩) 1 1]) rfl rfl rfl (by kernel_rfl) hS 0 rfl rfl rfl) 0 rfl rfl rfl rfl ?_
  intro w7 hS
  refine seq_end ?_
  refine hK4 _ _ ?_
  refine wp_ret ?_
  refine hret _ _ ?_
  refine ends (v := .agg #[.bool false, .slice none 0 0, .slice (some ⟨g5, 0, none⟩) 1 1]) hA rfl (.cons (res_cell hS BiF_isS_24 rfl 0 rfl (cs := [.bool false, .slice none 0 0, .slice (some ⟨g5, 0, none⟩) 1 1]) rfl rfl) .nil) rfl ?_
  exact ⟨none, 0, some ⟨g5, 0, none⟩, 1, rfl, (Sc.none _), ⟨(hS.rd 0 rfl), (fun h => by cases h), (Nat.le_refl _)⟩, hS.bel⟩
end Go.Proofs.YthlkbnhbmfmchaaGreat
namespace Go.Proofs.YthlkbnhbmfmchaaGreat
open Go.RowKit
set_option linter.unusedVariables false
set_option linter.unusedSimpArgs false

section
variable {P : Program} {l : List (Nat × Value)} {dst : Option Tmp} {ty t : TypeId} {pos : String} {after : Array Edge} {guard : Option (Nat × Bool)} {w : World} {x y : Operand}
end
end Go.Proofs.YthlkbnhbmfmchaaGreat
namespace Go.Proofs.YthlkbnhbmfmchaaGreat
open Go.RowKit
set_option linter.unusedVariables false
set_option linter.unusedSimpArgs false
set_option maxRecDepth 100000


end Go.Proofs.YthlkbnhbmfmchaaGreat
namespace Go.Proofs.YthlkbnhbmfmchaaGreat
open Go.RowKit
set_option linter.unusedVariables false
set_option linter.unusedSimpArgs false

section
variable {fop : Nat → Nat → Nat} {fb : Bool → Bool → Bool} {b1 b2 : Bool} {y1 y2 : Nat}
end
section
variable {P : Program} {t : TypeId} {a b : Operand} {x y : Nat}
end
end Go.Proofs.YthlkbnhbmfmchaaGreat
namespace Go.Proofs.YthlkbnhbmfmchaaGreat
open Go.RowKit
set_option linter.unusedVariables false
set_option linter.unusedSimpArgs false
set_option maxRecDepth 100000


end Go.Proofs.YthlkbnhbmfmchaaGreat
namespace Go.Proofs.YthlkbnhbmfmchaaGreat
open Go.RowKit
set_option linter.unusedVariables false
set_option linter.unusedSimpArgs false

end Go.Proofs.YthlkbnhbmfmchaaGreat
namespace Go.Proofs.YthlkbnhbmfmchaaGreat
open Go.RowKit
set_option linter.unusedVariables false
set_option linter.unusedSimpArgs false
set_option maxRecDepth 100000


end Go.Proofs.YthlkbnhbmfmchaaGreat
namespace Go.Proofs.YthlkbnhbmfmchaaGreat
open Go.RowKit
set_option linter.unusedVariables false
set_option linter.unusedSimpArgs false
end Go.Proofs.YthlkbnhbmfmchaaGreat
namespace Go.Proofs.YthlkbnhbmfmchaaGreat
open Go.RowKit
set_option linter.unusedVariables false
set_option linter.unusedSimpArgs false
set_option maxRecDepth 100000
theorem BiK_is1_22 : Is1 Tryz.prog 22 := ⟨⟨_, Tryz.underlying22, rfl⟩, by kernel_rfl⟩
theorem BiK_is1_4 : Is1 Tryz.prog 4 := ⟨⟨_, Tryz.underlying4, rfl⟩, by kernel_rfl⟩
theorem BiK_fld_24_0 : FieldAt Tryz.prog 24 0 0 := ⟨_, _, Tryz.underlying24, rfl, rfl, by kernel_rfl⟩
theorem BiK_fld_24_1 : FieldAt Tryz.prog 24 1 1 := ⟨_, _, Tryz.underlying24, rfl, rfl, by kernel_rfl⟩
theorem BiK_fld_24_2 : FieldAt Tryz.prog 24 2 2 := ⟨_, _, Tryz.underlying24, rfl, rfl, by kernel_rfl⟩
theorem BiK_fld_26_0 : FieldAt Tryz.prog 26 0 0 := ⟨_, _, Tryz.underlying26, rfl, rfl, by kernel_rfl⟩
theorem BiK_fld_26_1 : FieldAt Tryz.prog 26 1 3 := ⟨_, _, Tryz.underlying26, rfl, rfl, by kernel_rfl⟩
theorem BiK_isS_24 : IsS Tryz.prog 24 3 := ⟨⟨_, Tryz.underlying24⟩, by kernel_rfl⟩
theorem ratSame_any {w : World} {b b' : Bool} {t q t' q' : List Nat} {a1 a2 : Option Addr} {ac1 ac2 : Nat} (ha1 : Sc w a1 ac1 t) (ha2 : Sc w a2 ac2 q) {u1 u2 : Option Addr} {uc1 uc2 : Nat} (hu1 : Sc w u1 uc1 t') (hu2 : Sc w u2 uc2 q') (l1 : t.length ≤ 9223372036854775807) (l2 : q.length ≤ 9223372036854775807) (l3 : t'.length ≤ 9223372036854775807) (l4 : q'.length ≤ 9223372036854775807) {r : Bool} (hr : sameF b t q b' t' q' = r) :
    Calls Tryz.prog 55 #[.agg #[.bool b, .slice a1 t.length ac1, .slice a2 q.length ac2], .agg #[.bool b', .slice u1 t'.length uc1, .slice u2 q'.length uc2]] w fun e w' => e = .returned (.bool r) ∧ Below w.heap.size w w' := by
  have hS : St w w [] [(u2, q'), (u1, t'), (a2, q), (a1, t)] [] := ((((St.start w).addR ha1.rd).addR ha2.rd).addR hu1.rd).addR hu2.rd
  refine walk_of (l := [(0, .agg #[.bool b, .slice a1 t.length ac1, .slice a2 q.length ac2]), (1, .agg #[.bool b', .slice u1 t'.length uc1, .slice u2 q'.length uc2])]) Tryz.func55 rfl Tryz.ntmps55 rfl rfl ?_
  intro Q hret hnorm hP a hA
  refine wp_seq_k (fun K1 hK1 => ?_)
  refine wp_region_lit ?_
  refine seq_new (vs := [.bool b, .slice a1 t.length ac1, .slice a2 q.length ac2]) (t := 24) hA hS rfl rfl rfl (fun g => .pointer (some ⟨g, 0, none⟩)) (does_box rfl rfl) rfl ?_
  intro g2 w3 hS a hA
  refine seq_new (vs := [.bool b', .slice u1 t'.length uc1, .slice u2 q'.length uc2]) (t := 24) hA hS rfl rfl rfl (fun g => .pointer (some ⟨g, 0, none⟩)) (does_box rfl rfl) rfl ?_
  intro g4 w5 hS a hA
  refine seq_do hA rfl rfl rfl (does_assign rfl) ?_
  intro a hA
  refine seq_end ?_
  refine hK1 _ _ ?_
  refine wp_seq_k (fun K6 hK6 => ?_)
  refine wp_region_lit ?_
  refine seq_do (v := .pointer (some ⟨g2, 0, none⟩)) hA rfl rfl rfl (does_field BiK_fld_24_0 rfl rfl) ?_
  intro a hA
  refine seq_do hA rfl rfl rfl (does_load1 hS BiK_is1_4 rfl 1 rfl rfl) ?_
  intro a hA
  refine seq_do (v := .pointer (some ⟨g4, 0, none⟩)) hA rfl rfl rfl (does_field BiK_fld_24_0 rfl rfl) ?_
  intro a hA
  refine seq_do hA rfl rfl rfl (does_load1 hS BiK_is1_4 rfl 0 rfl rfl) ?_
  intro a hA
  rcases Bool.eq_false_or_eq_true ((b == b')) with hb7 | hb7
  · have hb7' := eq_of_beq hb7
    refine seq_do (v := .bool true) hA rfl rfl rfl (does_bin rfl rfl (fun w => ((bin_eqlB Tryz.underlying4) w).trans (by rw [hb7]))) ?_
    intro a hA
    refine seq_do hA rfl rfl rfl (does_move rfl) ?_
    intro a hA
    refine seq_do (v := .pointer (some ⟨g2, 1, none⟩)) hA rfl rfl rfl (does_field BiK_fld_24_1 rfl rfl) ?_
    intro a hA
    refine seq_do hA rfl rfl rfl (does_load1 hS BiK_is1_22 rfl 1 rfl rfl) ?_
    intro a hA
    refine seq_do (v := .pointer (some ⟨g4, 1, none⟩)) hA rfl rfl rfl (does_field BiK_fld_24_1 rfl rfl) ?_
    intro a hA
    refine seq_do hA rfl rfl rfl (does_load1 hS BiK_is1_22 rfl 0 rfl rfl) ?_
    intro a hA
    rcases Bool.eq_false_or_eq_true (decide (t = t')) with hb8 | hb8
    · have hb8' := of_decide_eq_true hb8
      refine seq_call hA rfl rfl rfl (enters_func  rfl rfl (fun w => by kernel_rfl)) (rsameB_any _ _ (hS.rd 3 rfl) (hS.rd 1 rfl) l1 l3 hb8) ?_
      rintro _ w10 ⟨rfl, hb9⟩
      replace hS := hS.call hb9
      refine ⟨_, rfl, ?_⟩
      intro a hA
      refine seq_do (v := .bool true) hA rfl rfl rfl (does_pick rfl rfl rfl rfl) ?_
      intro a hA
      refine seq_do hA rfl rfl rfl (does_move rfl) ?_
      intro a hA
      refine seq_do (v := .pointer (some ⟨g2, 2, none⟩)) hA rfl rfl rfl (does_field BiK_fld_24_2 rfl rfl) ?_
      intro a hA
      refine seq_do hA rfl rfl rfl (does_load1 hS BiK_is1_22 rfl 1 rfl rfl) ?_
      intro a hA
      refine seq_do (v := .pointer (some ⟨g4, 2, none⟩)) hA rfl rfl rfl (does_field BiK_fld_24_2 rfl rfl) ?_
      intro a hA
      refine seq_do hA rfl rfl rfl (does_load1 hS BiK_is1_22 rfl 0 rfl rfl) ?_
      intro a hA
      rcases Bool.eq_false_or_eq_true (decide (q = q')) with hb11 | hb11
      · have hb11' := of_decide_eq_true hb11
        refine seq_call hA rfl rfl rfl (enters_func  rfl rfl (fun w => by kernel_rfl)) (rsameB_any _ _ (hS.rd 2 rfl) (hS.rd 0 rfl) l2 l4 hb11) ?_
        rintro _ w13 ⟨rfl, hb12⟩
        replace hS := hS.call hb12
        refine ⟨_, rfl, ?_⟩
        intro a hA
        refine seq_do (v := .bool true) hA rfl rfl rfl (does_pick rfl rfl rfl rfl) ?_
        intro a hA
        refine seq_do hA rfl rfl rfl (does_assign rfl) ?_
        intro a hA
        refine seq_end ?_
        refine hK6 _ _ ?_
        refine wp_ret ?_
        refine hret _ _ ?_
        refine ends (v := .bool true) hA rfl (.cons (res_tmp rfl) .nil) rfl ?_
        subst hr
        exact ⟨by unfold sameF; rw [hb7, hb8, hb11]; try rfl, hS.bel⟩
      · have hb11' := of_decide_eq_false hb11
        refine seq_call hA rfl rfl rfl (enters_func  rfl rfl (fun w => by kernel_rfl)) (rsameB_any _ _ (hS.rd 2 rfl) (hS.rd 0 rfl) l2 l4 hb11) ?_
        rintro _ w15 ⟨rfl, hb14⟩
        replace hS := hS.call hb14
        refine ⟨_, rfl, ?_⟩
        intro a hA
        refine seq_do (v := .bool false) hA rfl rfl rfl (does_pick rfl rfl rfl rfl) ?_
        intro a hA
        refine seq_do hA rfl rfl rfl (does_assign rfl) ?_
        intro a hA
        refine seq_end ?_
        refine hK6 _ _ ?_
        refine wp_ret ?_
        refine hret _ _ ?_
        refine ends (v := .bool false) hA rfl (.cons (res_tmp rfl) .nil) rfl ?_
        subst hr
        exact ⟨by unfold sameF; rw [hb7, hb8, hb11]; try rfl, hS.bel⟩
    · have hb8' := of_decide_eq_false hb8
      refine seq_call hA rfl rfl rfl (enters_func  rfl rfl (fun w => by kernel_rfl)) (rsameB_any _ _ (hS.rd 3 rfl) (hS.rd 1 rfl) l1 l3 hb8) ?_
      rintro _ w17 ⟨rfl, hb16⟩
      replace hS := hS.call hb16
      refine ⟨_, rfl, ?_⟩
      intro a hA
      refine seq_do (v := .bool false) hA rfl rfl rfl (does_pick rfl rfl rfl rfl) ?_
      intro a hA
      refine seq_do hA rfl rfl rfl (does_move rfl) ?_
      intro a hA
      refine seq_skip hA rfl rfl rfl ?_
      intro a hA
      refine seq_skip hA rfl rfl rfl ?_
      intro a hA
      refine seq_skip hA rfl rfl rfl ?_
      intro a hA
      refine seq_skip hA rfl rfl rfl ?_
      intro a hA
      refine seq_skip hA rfl rfl rfl ?_
      intro a hA
      refine seq_do (v := .bool false) hA rfl rfl rfl (does_pick rfl rfl rfl rfl) ?_
      intro a hA
      refine seq_do hA rfl rfl rfl (does_assign rfl) ?_
      intro a hA
      refine seq_end ?_
      refine hK6 _ _ ?_
      refine wp_ret ?_
      refine hret _ _ ?_
      refine ends (v := .bool false) hA rfl (.cons (res_tmp rfl) .nil) rfl ?_
      subst hr
      exact ⟨by unfold sameF; rw [hb7, hb8]; try rfl, hS.bel⟩
  · have hb7' := ne_of_beq_false hb7
    refine seq_do (v := .bool false) hA rfl rfl rfl (does_bin rfl rfl (fun w => ((bin_eqlB Tryz.underlying4) w).trans (by rw [hb7]))) ?_
    intro a hA
    refine seq_do hA rfl rfl rfl (does_move rfl) ?_
    intro a hA
    refine seq_skip hA rfl rfl rfl ?_
    intro a hA
    refine seq_skip hA rfl rfl rfl ?_
    intro a hA
    refine seq_skip hA rfl rfl rfl ?_
    intro a hA
    refine seq_skip hA rfl rfl rfl ?_
    intro a hA
    refine seq_skip hA rfl rfl rfl ?_
    intro a hA
    refine seq_do (v := .bool false) hA rfl rfl rfl (does_pick rfl rfl rfl rfl) ?_
    intro a hA
    refine seq_do hA rfl rfl rfl (does_move rfl) ?_
    intro a hA
    refine seq_skip hA rfl rfl rfl ?_
    intro a hA
    refine seq_skip hA rfl rfl rfl ?_
    intro a hA
    refine seq_skip hA rfl rfl rfl ?_
    intro a hA
    refine seq_skip hA rfl rfl rfl ?_
    intro a hA
    refine seq_skip hA rfl rfl rfl ?_
    intro a hA
    refine seq_do (v := .bool false) hA rfl rfl rfl (does_pick rfl rfl rfl rfl) ?_
    intro a hA
    refine seq_do hA rfl rfl rfl (does_assign rfl) ?_
    intro a hA
    refine seq_end ?_
    refine hK6 _ _ ?_
    refine wp_ret ?_
    refine hret _ _ ?_
    refine ends (v := .bool false) hA rfl (.cons (res_tmp rfl) .nil) rfl ?_
    subst hr
    exact ⟨by unfold sameF; rw [hb7]; try rfl, hS.bel⟩
theorem alike_any {w : World} {q : Q6} {a1 a2 a3 a4 : Option Addr} {ac1 ac2 ac3 ac4 : Nat} (ha : Nm w q a1 ac1 a2 ac2 a3 ac3 a4 ac4) (hl : LenQ q) {u1 u2 u3 u4 : Option Addr} {uc1 uc2 uc3 uc4 : Nat} (hu : Nm w q u1 uc1 u2 uc2 u3 uc3 u4 uc4) : Calls Tryz.prog 17 #[numV q a1 ac1 a2 ac2 a3 ac3 a4 ac4, numV q u1 uc1 u2 uc2 u3 uc3 u4 uc4] w fun e w' => e = .returned (.bool true) ∧ Below w.heap.size w w' := by
  have hS : St w w [] [(u4, q.q2), (u3, q.t2), (u2, q.q1), (u1, q.t1), (a4, q.q2), (a3, q.t2), (a2, q.q1), (a1, q.t1)] [] := ((((((((St.start w).addR ha.s1.rd).addR ha.s2.rd).addR ha.s3.rd).addR ha.s4.rd).addR hu.s1.rd).addR hu.s2.rd).addR hu.s3.rd).addR hu.s4.rd
  refine walk_of (l := [(0, .agg #[.bool q.b1, .slice a1 q.t1.length ac1, .slice a2 q.q1.length ac2, .bool q.b2, .slice a3 q.t2.length ac3, .slice a4 q.q2.length ac4]), (1, .agg #[.bool q.b1, .slice u1 q.t1.length uc1, .slice u2 q.q1.length uc2, .bool q.b2, .slice u3 q.t2.length uc3, .slice u4 q.q2.length uc4])]) Tryz.func17 rfl Tryz.ntmps17 rfl rfl ?_
  intro Q hret hnorm hP a hA
  refine wp_seq_k (fun K1 hK1 => ?_)
  refine wp_region_lit ?_
  refine seq_new (vs := [.bool q.b1, .slice a1 q.t1.length ac1, .slice a2 q.q1.length ac2, .bool q.b2, .slice a3 q.t2.length ac3, .slice a4 q.q2.length ac4]) (t := 26) hA hS rfl rfl rfl (fun g => .pointer (some ⟨g, 0, none⟩)) (does_box rfl rfl) rfl ?_
  intro g2 w3 hS a hA
  refine seq_new (vs := [.bool q.b1, .slice u1 q.t1.length uc1, .slice u2 q.q1.length uc2, .bool q.b2, .slice u3 q.t2.length uc3, .slice u4 q.q2.length uc4]) (t := 26) hA hS rfl rfl rfl (fun g => .pointer (some ⟨g, 0, none⟩)) (does_box rfl rfl) rfl ?_
  intro g4 w5 hS a hA
  refine seq_do hA rfl rfl rfl (does_assign rfl) ?_
  intro a hA
  refine seq_end ?_
  refine hK1 _ _ ?_
  refine wp_seq_k (fun K6 hK6 => ?_)
  refine wp_region_lit ?_
  refine seq_do (v := .pointer (some ⟨g2, 0, none⟩)) hA rfl rfl rfl (does_field BiK_fld_26_0 rfl rfl) ?_
  intro a hA
  refine seq_do (v := .agg #[.bool q.b1, .slice a1 q.t1.length ac1, .slice a2 q.q1.length ac2]) hA rfl rfl rfl (does_loadS hS BiK_isS_24 rfl 1 rfl (cs := [.bool q.b1, .slice a1 q.t1.length ac1, .slice a2 q.q1.length ac2]) rfl rfl) ?_
  intro a hA
  refine seq_do (v := .pointer (some ⟨g4, 0, none⟩)) hA rfl rfl rfl (does_field BiK_fld_26_0 rfl rfl) ?_
  intro a hA
  refine seq_do (v := .agg #[.bool q.b1, .slice u1 q.t1.length uc1, .slice u2 q.q1.length uc2]) hA rfl rfl rfl (does_loadS hS BiK_isS_24 rfl 0 rfl (cs := [.bool q.b1, .slice u1 q.t1.length uc1, .slice u2 q.q1.length uc2]) rfl rfl) ?_
  intro a hA
  refine seq_call hA rfl rfl rfl (enters_func  rfl rfl (fun w => by kernel_rfl)) (ratSame_any ⟨(hS.rd 7 rfl), ha.s1.nil, ha.s1.cap⟩ ⟨(hS.rd 6 rfl), ha.s2.nil, ha.s2.cap⟩ ⟨(hS.rd 3 rfl), hu.s1.nil, hu.s1.cap⟩ ⟨(hS.rd 2 rfl), hu.s2.nil, hu.s2.cap⟩ hl.l1 hl.l2 hl.l1 hl.l2 (sameF_refl _ _ _)) ?_
  rintro _ w8 ⟨rfl, hb7⟩
  replace hS := hS.call hb7
  refine ⟨_, rfl, ?_⟩
  intro a hA
  refine seq_do hA rfl rfl rfl (does_move rfl) ?_
  intro a hA
  refine seq_do (v := .pointer (some ⟨g2, 3, none⟩)) hA rfl rfl rfl (does_field BiK_fld_26_1 rfl rfl) ?_
  intro a hA
  refine seq_do (v := .agg #[.bool q.b2, .slice a3 q.t2.length ac3, .slice a4 q.q2.length ac4]) hA rfl rfl rfl (does_loadS hS BiK_isS_24 rfl 1 rfl (cs := [.bool q.b2, .slice a3 q.t2.length ac3, .slice a4 q.q2.length ac4]) rfl rfl) ?_
  intro a hA
  refine seq_do (v := .pointer (some ⟨g4, 3, none⟩)) hA rfl rfl rfl (does_field BiK_fld_26_1 rfl rfl) ?_
  intro a hA
  refine seq_do (v := .agg #[.bool q.b2, .slice u3 q.t2.length uc3, .slice u4 q.q2.length uc4]) hA rfl rfl rfl (does_loadS hS BiK_isS_24 rfl 0 rfl (cs := [.bool q.b2, .slice u3 q.t2.length uc3, .slice u4 q.q2.length uc4]) rfl rfl) ?_
  intro a hA
  refine seq_call hA rfl rfl rfl (enters_func  rfl rfl (fun w => by kernel_rfl)) (ratSame_any ⟨(hS.rd 5 rfl), ha.s3.nil, ha.s3.cap⟩ ⟨(hS.rd 4 rfl), ha.s4.nil, ha.s4.cap⟩ ⟨(hS.rd 1 rfl), hu.s3.nil, hu.s3.cap⟩ ⟨(hS.rd 0 rfl), hu.s4.nil, hu.s4.cap⟩ hl.l3 hl.l4 hl.l3 hl.l4 (sameF_refl _ _ _)) ?_
  rintro _ w10 ⟨rfl, hb9⟩
  replace hS := hS.call hb9
  refine ⟨_, rfl, ?_⟩
  intro a hA
  refine seq_do (v := .bool true) hA rfl rfl rfl (does_pick rfl rfl rfl rfl) ?_
  intro a hA
  refine seq_do hA rfl rfl rfl (does_assign rfl) ?_
  intro a hA
  refine seq_end ?_
  refine hK6 _ _ ?_
  refine wp_ret ?_
  refine hret _ _ ?_
  refine ends (v := .bool true) hA rfl (.cons (res_tmp rfl) .nil) rfl ?_
  exact ⟨rfl, hS.bel⟩
end Go.Proofs.YthlkbnhbmfmchaaGreat
namespace Go.Proofs.YthlkbnhbmfmchaaGreat
open Go.RowKit
set_option linter.unusedVariables false
set_option linter.unusedSimpArgs false
set_option maxRecDepth 100000
theorem RfB_isS_26 : IsS Tryz.prog 26 6 := ⟨⟨_, Tryz.underlying26⟩, by kernel_rfl⟩
theorem fit_lenR {u : Rat} (h : fitR u) : LenR 512 u := h
theorem raddE1_any {w : World} {p q : Q6} {a1 a2 a3 a4 : Option Addr} {ac1 ac2 ac3 ac4 : Nat} (ha : Nm w p a1 ac1 a2 ac2 a3 ac3 a4 ac4) (hl : LenQ p) {u1 u2 u3 u4 : Option Addr} {uc1 uc2 uc3 uc4 : Nat} (hb : Nm w q u1 uc1 u2 uc2 u3 uc3 u4 uc4) (hm : LenQ q) (h1 : soundQ p = false) : Calls Tryz.prog 9 #[numV p a1 ac1 a2 ac2 a3 ac3 a4 ac4, numV q u1 uc1 u2 uc2 u3 uc3 u4 uc4] w (AnsN w (Q6.zero, 2)) := by
  have hS : St w w [] [(u4, q.q2), (u3, q.t2), (u2, q.q1), (u1, q.t1), (a4, p.q2), (a3, p.t2), (a2, p.q1), (a1, p.t1)] [] := ((((((((St.start w).addR ha.s1.rd).addR ha.s2.rd).addR ha.s3.rd).addR ha.s4.rd).addR hb.s1.rd).addR hb.s2.rd).addR hb.s3.rd).addR hb.s4.rd
  refine walk_of (l := [(0, .agg #[.bool p.b1, .slice a1 p.t1.length ac1, .slice a2 p.q1.length ac2, .bool p.b2, .slice a3 p.t2.length ac3, .slice a4 p.q2.length ac4]), (1, .agg #[.bool q.b1, .slice u1 q.t1.length uc1, .slice u2 q.q1.length uc2, .bool q.b2, .slice u3 q.t2.length uc3, .slice u4 q.q2.length uc4])]) Tryz.func9 rfl Tryz.ntmps9 rfl rfl ?_
  intro Q hret hnorm hP a hA
  refine wp_seq_k (fun K1 hK1 => ?_)
  refine wp_region_lit ?_
  refine seq_new (vs := [.bool p.b1, .slice a1 p.t1.length ac1, .slice a2 p.q1.length ac2, .bool p.b2, .slice a3 p.t2.length ac3, .slice a4 p.q2.length ac4]) (t := 26) hA hS rfl rfl rfl (fun g => .pointer (some ⟨g, 0, none⟩)) (does_box rfl rfl) rfl ?_
  intro g2 w3 hS a hA
  refine seq_new (vs := [.bool q.b1, .slice u1 q.t1.length uc1, .slice u2 q.q1.length uc2, .bool q.b2, .slice u3 q.t2.length uc3, .slice u4 q.q2.length uc4]) (t := 26) hA hS rfl rfl rfl (fun g => .pointer (some ⟨g, 0, none⟩)) (does_box rfl rfl) rfl ?_
  intro g4 w5 hS a hA
  refine seq_new (vs := [.bool false, .slice none 0 0, .slice none 0 0, .bool false, .slice none 0 0, .slice none 0 0]) (t := 26) hA hS rfl rfl rfl (fun g => .pointer (some ⟨g, 0, none⟩)) (does_alloc (z := .agg #[.bool false, .slice none 0 0, .slice none 0 0, .bool false, .slice none 0 0, .slice none 0 0]) (by kernel_rfl) rfl) rfl ?_
  intro g6 w7 hS a hA
  refine seq_do hA rfl rfl rfl (does_assign rfl) ?_
  intro a hA
  refine seq_end ?_
  refine hK1 _ _ ?_
  refine wp_seq_k (fun K8 hK8 => ?_)
  refine wp_seq_k (fun K9 hK9 => ?_)
  refine wp_region_lit ?_
  refine seq_do (v := .agg #[.bool p.b1, .slice a1 p.t1.length ac1, .slice a2 p.q1.length ac2, .bool p.b2, .slice a3 p.t2.length ac3, .slice a4 p.q2.length ac4]) hA rfl rfl rfl (does_loadS hS RfB_isS_26 rfl 2 rfl (cs := [.bool p.b1, .slice a1 p.t1.length ac1, .slice a2 p.q1.length ac2, .bool p.b2, .slice a3 p.t2.length ac3, .slice a4 p.q2.length ac4]) rfl rfl) ?_
  intro a hA
  refine seq_call hA rfl rfl rfl (enters_func  rfl rfl (fun w => by kernel_rfl)) (rsoundQ_any (show Nm _ p a1 ac1 a2 ac2 a3 ac3 a4 ac4 from ⟨⟨(hS.rd 7 rfl), ha.s1.nil, ha.s1.cap⟩, ⟨(hS.rd 6 rfl), ha.s2.nil, ha.s2.cap⟩, ⟨(hS.rd 5 rfl), ha.s3.nil, ha.s3.cap⟩, ⟨(hS.rd 4 rfl), ha.s4.nil, ha.s4.cap⟩⟩) hl h1) ?_
  rintro _ w11 ⟨rfl, hb10⟩
  replace hS := hS.call hb10
  refine ⟨_, rfl, ?_⟩
  intro a hA
  refine seq_do (v := .bool true) hA rfl rfl rfl (does_un rfl un_not) ?_
  intro a hA
  refine seq_do hA rfl rfl rfl (does_move rfl) ?_
  intro a hA
  refine seq_skip hA rfl rfl rfl ?_
  intro a hA
  refine seq_skip hA rfl rfl rfl ?_
  intro a hA
  refine seq_skip hA rfl rfl rfl ?_
  intro a hA
  refine seq_do (v := .bool true) hA rfl rfl rfl (does_pick rfl rfl rfl rfl) ?_
  intro a hA
  refine seq_end ?_
  refine hK9 _ _ ?_
  refine wp_cond_true (hA.ev rfl) ?_
  refine wp_seq_k (fun K12 hK12 => ?_)
  refine wp_region_lit ?_
  refine seq_do (v := .agg #[.bool false, .slice none 0 0, .slice none 0 0, .bool false, .slice none 0 0, .slice none 0 0]) hA rfl rfl rfl (does_build rfl (fun w => by kernel_rfl)) ?_
  intro a hA
  refine seq_store (us := [.bool false, .slice none 0 0, .slice none 0 0, .bool false, .slice none 0 0, .slice none 0 0]) hA hS rfl rfl (sets_store (cs := [.bool false, .slice none 0 0, .slice none 0 0, .bool false, .slice none 0 0, .slice none 0 0]) rfl rfl rfl (by kernel_rfl) hS 0 rfl rfl rfl) 0 rfl rfl rfl rfl ?_
  intro w13 hS
  refine seq_do hA rfl rfl rfl (does_assign rfl) ?_
  intro a hA
  refine seq_end ?_
  refine hK12 _ _ ?_
  refine wp_ret ?_
  refine hret _ _ ?_
  refine ends (v := .tuple #[.agg #[.bool false, .slice none 0 0, .slice none 0 0, .bool false, .slice none 0 0, .slice none 0 0], .int .i64 2]) hA rfl (.cons (res_cell hS RfB_isS_26 rfl 0 rfl (cs := [.bool false, .slice none 0 0, .slice none 0 0, .bool false, .slice none 0 0, .slice none 0 0]) rfl rfl) (.cons (res_tmp rfl) .nil)) rfl ?_
  exact ⟨none, 0, none, 0, none, 0, none, 0, rfl, ⟨(Sc.none _), (Sc.none _), (Sc.none _), (Sc.none _)⟩, hS.bel⟩
theorem raddE2_any {w : World} {p q : Q6} {a1 a2 a3 a4 : Option Addr} {ac1 ac2 ac3 ac4 : Nat} (ha : Nm w p a1 ac1 a2 ac2 a3 ac3 a4 ac4) (hl : LenQ p) {u1 u2 u3 u4 : Option Addr} {uc1 uc2 uc3 uc4 : Nat} (hb : Nm w q u1 uc1 u2 uc2 u3 uc3 u4 uc4) (hm : LenQ q) (h1 : soundQ p = true) (h2 : soundQ q = false) : Calls Tryz.prog 9 #[numV p a1 ac1 a2 ac2 a3 ac3 a4 ac4, numV q u1 uc1 u2 uc2 u3 uc3 u4 uc4] w (AnsN w (Q6.zero, 2)) := by
  have hS : St w w [] [(u4, q.q2), (u3, q.t2), (u2, q.q1), (u1, q.t1), (a4, p.q2), (a3, p.t2), (a2, p.q1), (a1, p.t1)] [] := ((((((((St.start w).addR ha.s1.rd).addR ha.s2.rd).addR ha.s3.rd).addR ha.s4.rd).addR hb.s1.rd).addR hb.s2.rd).addR hb.s3.rd).addR hb.s4.rd
  refine walk_of (l := [(0, .agg #[.bool p.b1, .slice a1 p.t1.length ac1, .slice a2 p.q1.length ac2, .bool p.b2, .slice a3 p.t2.length ac3, .slice a4 p.q2.length ac4]), (1, .agg #[.bool q.b1, .slice u1 q.t1.length uc1, .slice u2 q.q1.length uc2, .bool q.b2, .slice u3 q.t2.length uc3, .slice u4 q.q2.length uc4])]) Tryz.func9 rfl Tryz.ntmps9 rfl rfl ?_
  intro Q hret hnorm hP a hA
  refine wp_seq_k (fun K1 hK1 => ?_)
  refine wp_region_lit ?_
  refine seq_new (vs := [.bool p.b1, .slice a1 p.t1.length ac1, .slice a2 p.q1.length ac2, .bool p.b2, .slice a3 p.t2.length ac3, .slice a4 p.q2.length ac4]) (t := 26) hA hS rfl rfl rfl (fun g => .pointer (some ⟨g, 0, none⟩)) (does_box rfl rfl) rfl ?_
  intro g2 w3 hS a hA
  refine seq_new (vs := [.bool q.b1, .slice u1 q.t1.length uc1, .slice u2 q.q1.length uc2, .bool q.b2, .slice u3 q.t2.length uc3, .slice u4 q.q2.length uc4]) (t := 26) hA hS rfl rfl rfl (fun g => .pointer (some ⟨g, 0, none⟩)) (does_box rfl rfl) rfl ?_
  intro g4 w5 hS a hA
  refine seq_new (vs := [.bool false, .slice none 0 0, .slice none 0 0, .bool false, .slice none 0 0, .slice none 0 0]) (t := 26) hA hS rfl rfl rfl (fun g => .pointer (some ⟨g, 0, none⟩)) (does_alloc (z := .agg #[.bool false, .slice none 0 0, .slice none 0 0, .bool false, .slice none 0 0, .slice none 0 0]) (by kernel_rfl) rfl) rfl ?_
  intro g6 w7 hS a hA
  refine seq_do hA rfl rfl rfl (does_assign rfl) ?_
  intro a hA
  refine seq_end ?_
  refine hK1 _ _ ?_
  refine wp_seq_k (fun K8 hK8 => ?_)
  refine wp_seq_k (fun K9 hK9 => ?_)
  refine wp_region_lit ?_
  refine seq_do (v := .agg #[.bool p.b1, .slice a1 p.t1.length ac1, .slice a2 p.q1.length ac2, .bool p.b2, .slice a3 p.t2.length ac3, .slice a4 p.q2.length ac4]) hA rfl rfl rfl (does_loadS hS RfB_isS_26 rfl 2 rfl (cs := [.bool p.b1, .slice a1 p.t1.length ac1, .slice a2 p.q1.length ac2, .bool p.b2, .slice a3 p.t2.length ac3, .slice a4 p.q2.length ac4]) rfl rfl) ?_
  intro a hA
  refine seq_call hA rfl rfl rfl (enters_func  rfl rfl (fun w => by kernel_rfl)) (rsoundQ_any (show Nm _ p a1 ac1 a2 ac2 a3 ac3 a4 ac4 from ⟨⟨(hS.rd 7 rfl), ha.s1.nil, ha.s1.cap⟩, ⟨(hS.rd 6 rfl), ha.s2.nil, ha.s2.cap⟩, ⟨(hS.rd 5 rfl), ha.s3.nil, ha.s3.cap⟩, ⟨(hS.rd 4 rfl), ha.s4.nil, ha.s4.cap⟩⟩) hl h1) ?_
  rintro _ w11 ⟨rfl, hb10⟩
  replace hS := hS.call hb10
  refine ⟨_, rfl, ?_⟩
  intro a hA
  refine seq_do (v := .bool false) hA rfl rfl rfl (does_un rfl un_not) ?_
  intro a hA
  refine seq_do hA rfl rfl rfl (does_move rfl) ?_
  intro a hA
  refine seq_do (v := .agg #[.bool q.b1, .slice u1 q.t1.length uc1, .slice u2 q.q1.length uc2, .bool q.b2, .slice u3 q.t2.length uc3, .slice u4 q.q2.length uc4]) hA rfl rfl rfl (does_loadS hS RfB_isS_26 rfl 1 rfl (cs := [.bool q.b1, .slice u1 q.t1.length uc1, .slice u2 q.q1.length uc2, .bool q.b2, .slice u3 q.t2.length uc3, .slice u4 q.q2.length uc4]) rfl rfl) ?_
  intro a hA
  refine seq_call hA rfl rfl rfl (enters_func  rfl rfl (fun w => by kernel_rfl)) (rsoundQ_any (show Nm _ q u1 uc1 u2 uc2 u3 uc3 u4 uc4 from ⟨⟨(hS.rd 3 rfl), hb.s1.nil, hb.s1.cap⟩, ⟨(hS.rd 2 rfl), hb.s2.nil, hb.s2.cap⟩, ⟨(hS.rd 1 rfl), hb.s3.nil, hb.s3.cap⟩, ⟨(hS.rd 0 rfl), hb.s4.nil, hb.s4.cap⟩⟩) hm h2) ?_
  rintro _ w13 ⟨rfl, hb12⟩
  replace hS := hS.call hb12
  refine ⟨_, rfl, ?_⟩
  intro a hA
  refine seq_do (v := .bool true) hA rfl rfl rfl (does_un rfl un_not) ?_
  intro a hA
  refine seq_do (v := .bool true) hA rfl rfl rfl (does_pick rfl rfl rfl rfl) ?_
  intro a hA
  refine seq_end ?_
  refine hK9 _ _ ?_
  refine wp_cond_true (hA.ev rfl) ?_
  refine wp_seq_k (fun K14 hK14 => ?_)
  refine wp_region_lit ?_
  refine seq_do (v := .agg #[.bool false, .slice none 0 0, .slice none 0 0, .bool false, .slice none 0 0, .slice none 0 0]) hA rfl rfl rfl (does_build rfl (fun w => by kernel_rfl)) ?_
  intro a hA
  refine seq_store (us := [.bool false, .slice none 0 0, .slice none 0 0, .bool false, .slice none 0 0, .slice none 0 0]) hA hS rfl rfl (sets_store (cs := [.bool false, .slice none 0 0, .slice none 0 0, .bool false, .slice none 0 0, .slice none 0 0]) rfl rfl rfl (by kernel_rfl) hS 0 rfl rfl rfl) 0 rfl rfl rfl rfl ?_
  intro w15 hS
  refine seq_do hA rfl rfl rfl (does_assign rfl) ?_
  intro a hA
  refine seq_end ?_
  refine hK14 _ _ ?_
  refine wp_ret ?_
  refine hret _ _ ?_
  refine ends (v := .tuple #[.agg #[.bool false, .slice none 0 0, .slice none 0 0, .bool false, .slice none 0 0, .slice none 0 0], .int .i64 2]) hA rfl (.cons (res_cell hS RfB_isS_26 rfl 0 rfl (cs := [.bool false, .slice none 0 0, .slice none 0 0, .bool false, .slice none 0 0, .slice none 0 0]) rfl rfl) (.cons (res_tmp rfl) .nil)) rfl ?_
  exact ⟨none, 0, none, 0, none, 0, none, 0, rfl, ⟨(Sc.none _), (Sc.none _), (Sc.none _), (Sc.none _)⟩, hS.bel⟩
theorem rsubE1_any {w : World} {p q : Q6} {a1 a2 a3 a4 : Option Addr} {ac1 ac2 ac3 ac4 : Nat} (ha : Nm w p a1 ac1 a2 ac2 a3 ac3 a4 ac4) (hl : LenQ p) {u1 u2 u3 u4 : Option Addr} {uc1 uc2 uc3 uc4 : Nat} (hb : Nm w q u1 uc1 u2 uc2 u3 uc3 u4 uc4) (hm : LenQ q) (h1 : soundQ p = false) : Calls Tryz.prog 11 #[numV p a1 ac1 a2 ac2 a3 ac3 a4 ac4, numV q u1 uc1 u2 uc2 u3 uc3 u4 uc4] w (AnsN w (Q6.zero, 2)) := by
  have hS : St w w [] [(u4, q.q2), (u3, q.t2), (u2, q.q1), (u1, q.t1), (a4, p.q2), (a3, p.t2), (a2, p.q1), (a1, p.t1)] [] := ((((((((St.start w).addR ha.s1.rd).addR ha.s2.rd).addR ha.s3.rd).addR ha.s4.rd).addR hb.s1.rd).addR hb.s2.rd).addR hb.s3.rd).addR hb.s4.rd
  refine walk_of (l := [(0, .agg #[.bool p.b1, .slice a1 p.t1.length ac1, .slice a2 p.q1.length ac2, .bool p.b2, .slice a3 p.t2.length ac3, .slice a4 p.q2.length ac4]), (1, .agg #[.bool q.b1, .slice u1 q.t1.length uc1, .slice u2 q.q1.length uc2, .bool q.b2, .slice u3 q.t2.length uc3, .slice u4 q.q2.length uc4])]) Tryz.func11 rfl Tryz.ntmps11 rfl rfl ?_
  intro Q hret hnorm hP a hA
  refine wp_seq_k (fun K1 hK1 => ?_)
  refine wp_region_lit ?_
  refine seq_new (vs := [.bool p.b1, .slice a1 p.t1.length ac1, .slice a2 p.q1.length ac2, .bool p.b2, .slice a3 p.t2.length ac3, .slice a4 p.q2.length ac4]) (t := 26) hA hS rfl rfl rfl (fun g => .pointer (some ⟨g, 0, none⟩)) (does_box rfl rfl) rfl ?_
  intro g2 w3 hS a hA
  refine seq_new (vs := [.bool q.b1, .slice u1 q.t1.length uc1, .slice u2 q.q1.length uc2, .bool q.b2, .slice u3 q.t2.length uc3, .slice u4 q.q2.length uc4]) (t := 26) hA hS rfl rfl rfl (fun g => .pointer (some ⟨g, 0, none⟩)) (does_box rfl rfl) rfl ?_
  intro g4 w5 hS a hA
  refine seq_new (vs := [.bool false, .slice none 0 0, .slice none 0 0, .bool false, .slice none 0 0, .slice none 0 0]) (t := 26) hA hS rfl rfl rfl (fun g => .pointer (some ⟨g, 0, none⟩)) (does_alloc (z := .agg #[.bool false, .slice none 0 0, .slice none 0 0, .bool false, .slice none 0 0, .slice none 0 0]) (by kernel_rfl) rfl) rfl ?_
  intro g6 w7 hS a hA
  refine seq_do hA rfl rfl rfl (does_assign rfl) ?_
  intro a hA
  refine seq_end ?_
  refine hK1 _ _ ?_
  refine wp_seq_k (fun K8 hK8 => ?_)
  refine wp_seq_k (fun K9 hK9 => ?_)
  refine wp_region_lit ?_
  refine seq_do (v := .agg #[.bool p.b1, .slice a1 p.t1.length ac1, .slice a2 p.q1.length ac2, .bool p.b2, .slice a3 p.t2.length ac3, .slice a4 p.q2.length ac4]) hA rfl rfl rfl (does_loadS hS RfB_isS_26 rfl 2 rfl (cs := [.bool p.b1, .slice a1 p.t1.length ac1, .slice a2 p.q1.length ac2, .bool p.b2, .slice a3 p.t2.length ac3, .slice a4 p.q2.length ac4]) rfl rfl) ?_
  intro a hA
  refine seq_call hA rfl rfl rfl (enters_func  rfl rfl (fun w => by kernel_rfl)) (rsoundQ_any (show Nm _ p a1 ac1 a2 ac2 a3 ac3 a4 ac4 from ⟨⟨(hS.rd 7 rfl), ha.s1.nil, ha.s1.cap⟩, ⟨(hS.rd 6 rfl), ha.s2.nil, ha.s2.cap⟩, ⟨(hS.rd 5 rfl), ha.s3.nil, ha.s3.cap⟩, ⟨(hS.rd 4 rfl), ha.s4.nil, ha.s4.cap⟩⟩) hl h1) ?_
  rintro _ w11 ⟨rfl, hb10⟩
  replace hS := hS.call hb10
  refine ⟨_, rfl, ?_⟩
  intro a hA
  refine seq_do (v := .bool true) hA rfl rfl rfl (does_un rfl un_not) ?_
  intro a hA
  refine seq_do hA rfl rfl rfl (does_move rfl) ?_
  intro a hA
  refine seq_skip hA rfl rfl rfl ?_
  intro a hA
  refine seq_skip hA rfl rfl rfl ?_
  intro a hA
  refine seq_skip hA rfl rfl rfl ?_
  intro a hA
  refine seq_do (v := .bool true) hA rfl rfl rfl (does_pick rfl rfl rfl rfl) ?_
  intro a hA
  refine seq_end ?_
  refine hK9 _ _ ?_
  refine wp_cond_true (hA.ev rfl) ?_
  refine wp_seq_k (fun K12 hK12 => ?_)
  refine wp_region_lit ?_
  refine seq_do (v := .agg #[.bool false, .slice none 0 0, .slice none 0 0, .bool false, .slice none 0 0, .slice none 0 0]) hA rfl rfl rfl (does_build rfl (fun w => by kernel_rfl)) ?_
  intro a hA
  refine seq_store (us := [.bool false, .slice none 0 0, .slice none 0 0, .bool false, .slice none 0 0, .slice none 0 0]) hA hS rfl rfl (sets_store (cs := [.bool false, .slice none 0 0, .slice none 0 0, .bool false, .slice none 0 0, .slice none 0 0]) rfl rfl rfl (by kernel_rfl) hS 0 rfl rfl rfl) 0 rfl rfl rfl rfl ?_
  intro w13 hS
  refine seq_do hA rfl rfl rfl (does_assign rfl) ?_
  intro a hA
  refine seq_end ?_
  refine hK12 _ _ ?_
  refine wp_ret ?_
  refine hret _ _ ?_
  refine ends (v := .tuple #[.agg #[.bool false, .slice none 0 0, .slice none 0 0, .bool false, .slice none 0 0, .slice none 0 0], .int .i64 2]) hA rfl (.cons (res_cell hS RfB_isS_26 rfl 0 rfl (cs := [.bool false, .slice none 0 0, .slice none 0 0, .bool false, .slice none 0 0, .slice none 0 0]) rfl rfl) (.cons (res_tmp rfl) .nil)) rfl ?_
  exact ⟨none, 0, none, 0, none, 0, none, 0, rfl, ⟨(Sc.none _), (Sc.none _), (Sc.none _), (Sc.none _)⟩, hS.bel⟩
theorem rsubE2_any {w : World} {p q : Q6} {a1 a2 a3 a4 : Option Addr} {ac1 ac2 ac3 ac4 : Nat} (ha : Nm w p a1 ac1 a2 ac2 a3 ac3 a4 ac4) (hl : LenQ p) {u1 u2 u3 u4 : Option Addr} {uc1 uc2 uc3 uc4 : Nat} (hb : Nm w q u1 uc1 u2 uc2 u3 uc3 u4 uc4) (hm : LenQ q) (h1 : soundQ p = true) (h2 : soundQ q = false) : Calls Tryz.prog 11 #[numV p a1 ac1 a2 ac2 a3 ac3 a4 ac4, numV q u1 uc1 u2 uc2 u3 uc3 u4 uc4] w (AnsN w (Q6.zero, 2)) := by
  have hS : St w w [] [(u4, q.q2), (u3, q.t2), (u2, q.q1), (u1, q.t1), (a4, p.q2), (a3, p.t2), (a2, p.q1), (a1, p.t1)] [] := ((((((((St.start w).addR ha.s1.rd).addR ha.s2.rd).addR ha.s3.rd).addR ha.s4.rd).addR hb.s1.rd).addR hb.s2.rd).addR hb.s3.rd).addR hb.s4.rd
  refine walk_of (l := [(0, .agg #[.bool p.b1, .slice a1 p.t1.length ac1, .slice a2 p.q1.length ac2, .bool p.b2, .slice a3 p.t2.length ac3, .slice a4 p.q2.length ac4]), (1, .agg #[.bool q.b1, .slice u1 q.t1.length uc1, .slice u2 q.q1.length uc2, .bool q.b2, .slice u3 q.t2.length uc3, .slice u4 q.q2.length uc4])]) Tryz.func11 rfl Tryz.ntmps11 rfl rfl ?_
  intro Q hret hnorm hP a hA
  refine wp_seq_k (fun K1 hK1 => ?_)
  refine wp_region_lit ?_
  refine seq_new (vs := [.bool p.b1, .slice a1 p.t1.length ac1, .slice a2 p.q1.length ac2, .bool p.b2, .slice a3 p.t2.length ac3, .slice a4 p.q2.length ac4]) (t := 26) hA hS rfl rfl rfl (fun g => .pointer (some ⟨g, 0, none⟩)) (does_box rfl rfl) rfl ?_
  intro g2 w3 hS a hA
  refine seq_new (vs := [.bool q.b1, .slice u1 q.t1.length uc1, .slice u2 q.q1.length uc2, .bool q.b2, .slice u3 q.t2.length uc3, .slice u4 q.q2.length uc4]) (t := 26) hA hS rfl rfl rfl (fun g => .pointer (some ⟨g, 0, none⟩)) (does_box rfl rfl) rfl ?_
  intro g4 w5 hS a hA
  refine seq_new (vs := [.bool false, .slice none 0 0, .slice none 0 0, .bool false, .slice none 0 0, .slice none 0 0]) (t := 26) hA hS rfl rfl rfl (fun g => .pointer (some ⟨g, 0, none⟩)) (does_alloc (z := .agg #[.bool false, .slice none 0 0, .slice none 0 0, .bool false, .slice none 0 0, .slice none 0 0]) (by kernel_rfl) rfl) rfl ?_
  intro g6 w7 hS a hA
  refine seq_do hA rfl rfl rfl (does_assign rfl) ?_
  intro a hA
  refine seq_end ?_
  refine hK1 _ _ ?_
  refine wp_seq_k (fun K8 hK8 => ?_)
  refine wp_seq_k (fun K9 hK9 => ?_)
  refine wp_region_lit ?_
  refine seq_do (v := .agg #[.bool p.b1, .slice a1 p.t1.length ac1, .slice a2 p.q1.length ac2, .bool p.b2, .slice a3 p.t2.length ac3, .slice a4 p.q2.length ac4]) hA rfl rfl rfl (does_loadS hS RfB_isS_26 rfl 2 rfl (cs := [.bool p.b1, .slice a1 p.t1.length ac1, .slice a2 p.q1.length ac2, .bool p.b2, .slice a3 p.t2.length ac3, .slice a4 p.q2.length ac4]) rfl rfl) ?_
  intro a hA
  refine seq_call hA rfl rfl rfl (enters_func  rfl rfl (fun w => by kernel_rfl)) (rsoundQ_any (show Nm _ p a1 ac1 a2 ac2 a3 ac3 a4 ac4 from ⟨⟨(hS.rd 7 rfl), ha.s1.nil, ha.s1.cap⟩, ⟨(hS.rd 6 rfl), ha.s2.nil, ha.s2.cap⟩, ⟨(hS.rd 5 rfl), ha.s3.nil, ha.s3.cap⟩, ⟨(hS.rd 4 rfl), ha.s4.nil, ha.s4.cap⟩⟩) hl h1) ?_
  rintro _ w11 ⟨rfl, hb10⟩
  replace hS := hS.call hb10
  refine ⟨_, rfl, ?_⟩
  intro a hA
  refine seq_do (v := .bool false) hA rfl rfl rfl (does_un rfl un_not) ?_
  intro a hA
  refine seq_do hA rfl rfl rfl (does_move rfl) ?_
  intro a hA
  refine seq_do (v := .agg #[.bool q.b1, .slice u1 q.t1.length uc1, .slice u2 q.q1.length uc2, .bool q.b2, .slice u3 q.t2.length uc3, .slice u4 q.q2.length uc4]) hA rfl rfl rfl (does_loadS hS RfB_isS_26 rfl 1 rfl (cs := [.bool q.b1, .slice u1 q.t1.length uc1, .slice u2 q.q1.length uc2, .bool q.b2, .slice u3 q.t2.length uc3, .slice u4 q.q2.length uc4]) rfl rfl) ?_
  intro a hA
  refine seq_call hA rfl rfl rfl (enters_func  rfl rfl (fun w => by kernel_rfl)) (rsoundQ_any (show Nm _ q u1 uc1 u2 uc2 u3 uc3 u4 uc4 from ⟨⟨(hS.rd 3 rfl), hb.s1.nil, hb.s1.cap⟩, ⟨(hS.rd 2 rfl), hb.s2.nil, hb.s2.cap⟩, ⟨(hS.rd 1 rfl), hb.s3.nil, hb.s3.cap⟩, ⟨(hS.rd 0 rfl), hb.s4.nil, hb.s4.cap⟩⟩) hm h2) ?_
  rintro _ w13 ⟨rfl, hb12⟩
  replace hS := hS.call hb12
  refine ⟨_, rfl, ?_⟩
  intro a hA
  refine seq_do (v := .bool true) hA rfl rfl rfl (does_un rfl un_not) ?_
  intro a hA
  refine seq_do (v := .bool true) hA rfl rfl rfl (does_pick rfl rfl rfl rfl) ?_
  intro a hA
  refine seq_end ?_
  refine hK9 _ _ ?_
  refine wp_cond_true (hA.ev rfl) ?_
  refine wp_seq_k (fun K14 hK14 => ?_)
  refine wp_region_lit ?_
  refine seq_do (v := .agg #[.bool false, .slice none 0 0, .slice none 0 0, .bool false, .slice none 0 0, .slice none 0 0]) hA rfl rfl rfl (does_build rfl (fun w => by kernel_rfl)) ?_
  intro a hA
  refine seq_store (us := [.bool false, .slice none 0 0, .slice none 0 0, .bool false, .slice none 0 0, .slice none 0 0]) hA hS rfl rfl (sets_store (cs := [.bool false, .slice none 0 0, .slice none 0 0, .bool false, .slice none 0 0, .slice none 0 0]) rfl rfl rfl (by kernel_rfl) hS 0 rfl rfl rfl) 0 rfl rfl rfl rfl ?_
  intro w15 hS
  refine seq_do hA rfl rfl rfl (does_assign rfl) ?_
  intro a hA
  refine seq_end ?_
  refine hK14 _ _ ?_
  refine wp_ret ?_
  refine hret _ _ ?_
  refine ends (v := .tuple #[.agg #[.bool false, .slice none 0 0, .slice none 0 0, .bool false, .slice none 0 0, .slice none 0 0], .int .i64 2]) hA rfl (.cons (res_cell hS RfB_isS_26 rfl 0 rfl (cs := [.bool false, .slice none 0 0, .slice none 0 0, .bool false, .slice none 0 0, .slice none 0 0]) rfl rfl) (.cons (res_tmp rfl) .nil)) rfl ?_
  exact ⟨none, 0, none, 0, none, 0, none, 0, rfl, ⟨(Sc.none _), (Sc.none _), (Sc.none _), (Sc.none _)⟩, hS.bel⟩
end Go.Proofs.YthlkbnhbmfmchaaGreat
namespace Go.Proofs.YthlkbnhbmfmchaaGreat
open Go.RowKit
set_option linter.unusedVariables false
set_option linter.unusedSimpArgs false
set_option maxRecDepth 100000
theorem RfC_is1_22 : Is1 Tryz.prog 22 := ⟨⟨_, Tryz.underlying22, rfl⟩, by kernel_rfl⟩
theorem RfC_is1_4 : Is1 Tryz.prog 4 := ⟨⟨_, Tryz.underlying4, rfl⟩, by kernel_rfl⟩
theorem RfC_fld_24_0 : FieldAt Tryz.prog 24 0 0 := ⟨_, _, Tryz.underlying24, rfl, rfl, by kernel_rfl⟩
theorem RfC_fld_24_1 : FieldAt Tryz.prog 24 1 1 := ⟨_, _, Tryz.underlying24, rfl, rfl, by kernel_rfl⟩
theorem RfC_fld_26_0 : FieldAt Tryz.prog 26 0 0 := ⟨_, _, Tryz.underlying26, rfl, rfl, by kernel_rfl⟩
theorem RfC_fld_26_1 : FieldAt Tryz.prog 26 1 3 := ⟨_, _, Tryz.underlying26, rfl, rfl, by kernel_rfl⟩
theorem RfC_isS_24 : IsS Tryz.prog 24 3 := ⟨⟨_, Tryz.underlying24⟩, by kernel_rfl⟩
theorem RfC_isS_26 : IsS Tryz.prog 26 6 := ⟨⟨_, Tryz.underlying26⟩, by kernel_rfl⟩
theorem raddW_any {w : World} {u v x y : Rat} {a1 a2 a3 a4 : Option Addr} {ac1 ac2 ac3 ac4 : Nat} (ha : Nm w (Q6.rat u v) a1 ac1 a2 ac2 a3 ac3 a4 ac4) {u1 u2 u3 u4 : Option Addr} {uc1 uc2 uc3 uc4 : Nat} (hb : Nm w (Q6.rat x y) u1 uc1 u2 uc2 u3 uc3 u4 uc4) (hu : fitR u) (hv : fitR v) (hx : fitR x) (hy : fitR y) (LR_u : LenR 512 u) (LR_v : LenR 512 v) (LR_x : LenR 512 x) (LR_y : LenR 512 y) {re im : Rat} (h1 : u + x = re) (h2 : v + y = im) (l1 : LenR 9000 re) (l2 : LenR 9000 im) : Calls Tryz.prog 9 #[numV (Q6.rat u v) a1 ac1 a2 ac2 a3 ac3 a4 ac4, numV (Q6.rat x y) u1 uc1 u2 uc2 u3 uc3 u4 uc4] w (AnsN w (ratS re im)) := by
  have hS : St w w [] [(u4, words y.den), (u3, words y.num.natAbs), (u2, words x.den), (u1, words x.num.natAbs), (a4, words v.den), (a3, words v.num.natAbs), (a2, words u.den), (a1, words u.num.natAbs)] [] := ((((((((St.start w).addR ha.s1.rd).addR ha.s2.rd).addR ha.s3.rd).addR ha.s4.rd).addR hb.s1.rd).addR hb.s2.rd).addR hb.s3.rd).addR hb.s4.rd
  refine walk_of (l := [(0, .agg #[.bool (rb u.num), .slice a1 ((words u.num.natAbs).length) ac1, .slice a2 ((words u.den).length) ac2, .bool (rb v.num), .slice a3 ((words v.num.natAbs).length) ac3, .slice a4 ((words v.den).length) ac4]), (1, .agg #[.bool (rb x.num), .slice u1 ((words x.num.natAbs).length) uc1, .slice u2 ((words x.den).length) uc2, .bool (rb y.num), .slice u3 ((words y.num.natAbs).length) uc3, .slice u4 ((words y.den).length) uc4])]) Tryz.func9 rfl Tryz.ntmps9 rfl rfl ?_
  intro Q hret hnorm hP a hA
  refine wp_seq_k (fun K1 hK1 => ?_)
  refine wp_region_lit ?_
  refine seq_new (vs := [.bool (rb u.num), .slice a1 ((words u.num.natAbs).length) ac1, .slice a2 ((words u.den).length) ac2, .bool (rb v.num), .slice a3 ((words v.num.natAbs).length) ac3, .slice a4 ((words v.den).length) ac4]) (t := 26) hA hS rfl rfl rfl (fun g => .pointer (some ⟨g, 0, none⟩)) (does_box rfl rfl) rfl ?_
  intro g2 w3 hS a hA
  refine seq_new (vs := [.bool (rb x.num), .slice u1 ((words x.num.natAbs).length) uc1, .slice u2 ((words x.den).length) uc2, .bool (rb y.num), .slice u3 ((words y.num.natAbs).length) uc3, .slice u4 ((words y.den).length) uc4]) (t := 26) hA hS rfl rfl rfl (fun g => .pointer (some ⟨g, 0, none⟩)) (does_box rfl rfl) rfl ?_
  intro g4 w5 hS a hA
  refine seq_new (vs := [.bool false, .slice none 0 0, .slice none 0 0, .bool false, .slice none 0 0, .slice none 0 0]) (t := 26) hA hS rfl rfl rfl (fun g => .pointer (some ⟨g, 0, none⟩)) (does_alloc (z := .agg #[.bool false, .slice none 0 0, .slice none 0 0, .bool false, .slice none 0 0, .slice none 0 0]) (by kernel_rfl) rfl) rfl ?_
  intro g6 w7 hS a hA
  refine seq_do hA rfl rfl rfl (does_assign rfl) ?_
  intro a hA
  refine seq_end ?_
  refine hK1 _ _ ?_
  refine wp_seq_k (fun K8 hK8 => ?_)
  refine wp_seq_k (fun K9 hK9 => ?_)
  refine wp_region_lit ?_
  refine seq_do (v := .agg #[.bool (rb u.num), .slice a1 ((words u.num.natAbs).length) ac1, .slice a2 ((words u.den).length) ac2, .bool (rb v.num), .slice a3 ((words v.num.natAbs).length) ac3, .slice a4 ((words v.den).length) ac4]) hA rfl rfl rfl (does_loadS hS RfC_isS_26 rfl 2 rfl (cs := [.bool (rb u.num), .slice a1 ((words u.num.natAbs).length) ac1, .slice a2 ((words u.den).length) ac2, .bool (rb v.num), .slice a3 ((words v.num.natAbs).length) ac3, .slice a4 ((words v.den).length) ac4]) rfl rfl) ?_
  intro a hA
  refine seq_call hA rfl rfl rfl (enters_func  rfl rfl (fun w => by kernel_rfl)) (rsoundQ_any (show Nm _ (Q6.rat u v) a1 ac1 a2 ac2 a3 ac3 a4 ac4 from ⟨⟨(hS.rd 7 rfl), ha.s1.nil, ha.s1.cap⟩, ⟨(hS.rd 6 rfl), ha.s2.nil, ha.s2.cap⟩, ⟨(hS.rd 5 rfl), ha.s3.nil, ha.s3.cap⟩, ⟨(hS.rd 4 rfl), ha.s4.nil, ha.s4.cap⟩⟩) (lenQ_rat hu hv) (soundQ_rat hu hv)) ?_
  rintro _ w11 ⟨rfl, hb10⟩
  replace hS := hS.call hb10
  refine ⟨_, rfl, ?_⟩
  intro a hA
  refine seq_do (v := .bool false) hA rfl rfl rfl (does_un rfl un_not) ?_
  intro a hA
  refine seq_do hA rfl rfl rfl (does_move rfl) ?_
  intro a hA
  refine seq_do (v := .agg #[.bool (rb x.num), .slice u1 ((words x.num.natAbs).length) uc1, .slice u2 ((words x.den).length) uc2, .bool (rb y.num), .slice u3 ((words y.num.natAbs).length) uc3, .slice u4 ((words y.den).length) uc4]) hA rfl rfl rfl (does_loadS hS RfC_isS_26 rfl 1 rfl (cs := [.bool (rb x.num), .slice u1 ((words x.num.natAbs).length) uc1, .slice u2 ((words x.den).length) uc2, .bool (rb y.num), .slice u3 ((words y.num.natAbs).length) uc3, .slice u4 ((words y.den).length) uc4]) rfl rfl) ?_
  intro a hA
  refine seq_call hA rfl rfl rfl (enters_func  rfl rfl (fun w => by kernel_rfl)) (rsoundQ_any (show Nm _ (Q6.rat x y) u1 uc1 u2 uc2 u3 uc3 u4 uc4 from ⟨⟨(hS.rd 3 rfl), hb.s1.nil, hb.s1.cap⟩, ⟨(hS.rd 2 rfl), hb.s2.nil, hb.s2.cap⟩, ⟨(hS.rd 1 rfl), hb.s3.nil, hb.s3.cap⟩, ⟨(hS.rd 0 rfl), hb.s4.nil, hb.s4.cap⟩⟩) (lenQ_rat hx hy) (soundQ_rat hx hy)) ?_
  rintro _ w13 ⟨rfl, hb12⟩
  replace hS := hS.call hb12
  refine ⟨_, rfl, ?_⟩
  intro a hA
  refine seq_do (v := .bool false) hA rfl rfl rfl (does_un rfl un_not) ?_
  intro a hA
  refine seq_do (v := .bool false) hA rfl rfl rfl (does_pick rfl rfl rfl rfl) ?_
  intro a hA
  refine seq_end ?_
  refine hK9 _ _ ?_
  refine wp_cond_false (hA.ev rfl) ?_
  refine wp_skip ?_
  refine hK8 _ _ ?_
  refine wp_seq_k (fun K14 hK14 => ?_)
  refine wp_draw (S := fun w1 => St w w1 [(g4, [.bool (rb x.num), .slice u1 ((words x.num.natAbs).length) uc1, .slice u2 ((words x.den).length) uc2, .bool (rb y.num), .slice u3 ((words y.num.natAbs).length) uc3, .slice u4 ((words y.den).length) uc4]), (g2, [.bool (rb u.num), .slice a1 ((words u.num.natAbs).length) ac1, .slice a2 ((words u.den).length) ac2, .bool (rb v.num), .slice a3 ((words v.num.natAbs).length) ac3, .slice a4 ((words v.den).length) ac4])] [(u4, words y.den), (u3, words y.num.natAbs), (u2, words x.den), (u1, words x.num.natAbs), (a4, words v.den), (a3, words v.num.natAbs), (a2, words u.den), (a1, words u.num.natAbs)] []) (by kernel_rfl) ?_
  replace hS := hS.drew
  refine any_take (v := .pointer (some ⟨g2, 0, none⟩)) hA 0 rfl rfl rfl rfl (by kernel_rfl) (by kernel_rfl) (by kernel_rfl) (fun c a w h => hP c a _ _ w h) (hS.partD (.cons _ (.cons_cons _ (.cons_cons _ .slnil))) 0 rfl (.refl _)) (fun w1 hS => does_field RfC_fld_26_0 rfl rfl) ?_
  intro a hA
  refine any_take (v := .agg #[.bool (rb u.num), .slice a1 ((words u.num.natAbs).length) ac1, .slice a2 ((words u.den).length) ac2]) hA 1 rfl rfl rfl rfl (by kernel_rfl) (by kernel_rfl) (by kernel_rfl) (fun c a w h => hP c a _ _ w h) (hS.partD (.cons _ (.cons_cons _ (.cons_cons _ .slnil))) 0 rfl (.refl _)) (fun w1 hS => does_loadS hS RfC_isS_24 rfl 1 rfl (cs := [.bool (rb u.num), .slice a1 ((words u.num.natAbs).length) ac1, .slice a2 ((words u.den).length) ac2]) rfl rfl) ?_
  intro a hA
  refine any_take (v := .pointer (some ⟨g4, 0, none⟩)) hA 2 rfl rfl rfl rfl (by kernel_rfl) (by kernel_rfl) (by kernel_rfl) (fun c a w h => hP c a _ _ w h) (hS.partD (.cons _ (.cons_cons _ (.cons_cons _ .slnil))) 0 rfl (.refl _)) (fun w1 hS => does_field RfC_fld_26_0 rfl rfl) ?_
  intro a hA
  refine any_take (v := .agg #[.bool (rb x.num), .slice u1 ((words x.num.natAbs).length) uc1, .slice u2 ((words x.den).length) uc2]) hA 3 rfl rfl rfl rfl (by kernel_rfl) (by kernel_rfl) (by kernel_rfl) (fun c a w h => hP c a _ _ w h) (hS.partD (.cons _ (.cons_cons _ (.cons_cons _ .slnil))) 0 rfl (.refl _)) (fun w1 hS => does_loadS hS RfC_isS_24 rfl 0 rfl (cs := [.bool (rb x.num), .slice u1 ((words x.num.natAbs).length) uc1, .slice u2 ((words x.den).length) uc2]) rfl rfl) ?_
  intro a hA
  refine any_take (v := .pointer (some ⟨g2, 3, none⟩)) hA 5 rfl rfl rfl rfl (by kernel_rfl) (by kernel_rfl) (by kernel_rfl) (fun c a w h => hP c a _ _ w h) (hS.partD (.cons _ (.cons_cons _ (.cons_cons _ .slnil))) 0 rfl (.refl _)) (fun w1 hS => does_field RfC_fld_26_1 rfl rfl) ?_
  intro a hA
  refine any_take (v := .agg #[.bool (rb v.num), .slice a3 ((words v.num.natAbs).length) ac3, .slice a4 ((words v.den).length) ac4]) hA 6 rfl rfl rfl rfl (by kernel_rfl) (by kernel_rfl) (by kernel_rfl) (fun c a w h => hP c a _ _ w h) (hS.partD (.cons _ (.cons_cons _ (.cons_cons _ .slnil))) 0 rfl (.refl _)) (fun w1 hS => does_loadS hS RfC_isS_24 rfl 1 rfl (cs := [.bool (rb v.num), .slice a3 ((words v.num.natAbs).length) ac3, .slice a4 ((words v.den).length) ac4]) rfl rfl) ?_
  intro a hA
  refine any_take (v := .pointer (some ⟨g4, 3, none⟩)) hA 7 rfl rfl rfl rfl (by kernel_rfl) (by kernel_rfl) (by kernel_rfl) (fun c a w h => hP c a _ _ w h) (hS.partD (.cons _ (.cons_cons _ (.cons_cons _ .slnil))) 0 rfl (.refl _)) (fun w1 hS => does_field RfC_fld_26_1 rfl rfl) ?_
  intro a hA
  refine any_take (v := .agg #[.bool (rb y.num), .slice u3 ((words y.num.natAbs).length) uc3, .slice u4 ((words y.den).length) uc4]) hA 8 rfl rfl rfl rfl (by kernel_rfl) (by kernel_rfl) (by kernel_rfl) (fun c a w h => hP c a _ _ w h) (hS.partD (.cons _ (.cons_cons _ (.cons_cons _ .slnil))) 0 rfl (.refl _)) (fun w1 hS => does_loadS hS RfC_isS_24 rfl 0 rfl (cs := [.bool (rb y.num), .slice u3 ((words y.num.natAbs).length) uc3, .slice u4 ((words y.den).length) uc4]) rfl rfl) ?_
  intro a hA
  refine any_one (by kernel_rfl) (op_call hA 4 rfl rfl rfl rfl (enters_func  rfl rfl (fun w => by kernel_rfl)) (rsumR_any ⟨(hS.rd 7 rfl), ha.s1.nil, ha.s1.cap⟩ ⟨(hS.rd 6 rfl), ha.s2.nil, ha.s2.cap⟩ ⟨(hS.rd 3 rfl), hb.s1.nil, hb.s1.cap⟩ ⟨(hS.rd 2 rfl), hb.s2.nil, hb.s2.cap⟩ (LR_u.mono (by decide)) (LR_x.mono (by decide)) h1) ?_)
  rintro _ w19 ⟨f15_1, f15_c1, f15_2, f15_c2, rfl, hs16, hs17, hb18⟩
  replace hS := hS.call hb18
  replace hS := hS.addR hs16.rd
  replace hS := hS.addR hs17.rd
  refine ⟨_, rfl, (hS.partD (.cons _ (.cons_cons _ (.cons_cons _ .slnil))) 2 rfl (.refl _)), ?_⟩
  intro a hA
  refine any_one (by kernel_rfl) (op_call hA 9 rfl rfl rfl rfl (enters_func  rfl rfl (fun w => by kernel_rfl)) (rsumR_any ⟨(hS.rd 7 rfl), ha.s3.nil, ha.s3.cap⟩ ⟨(hS.rd 6 rfl), ha.s4.nil, ha.s4.cap⟩ ⟨(hS.rd 3 rfl), hb.s3.nil, hb.s3.cap⟩ ⟨(hS.rd 2 rfl), hb.s4.nil, hb.s4.cap⟩ (LR_v.mono (by decide)) (LR_y.mono (by decide)) h2) ?_)
  rintro _ w24 ⟨f20_1, f20_c1, f20_2, f20_c2, rfl, hs21, hs22, hb23⟩
  replace hS := hS.call hb23
  replace hS := hS.addR hs21.rd
  replace hS := hS.addR hs22.rd
  refine ⟨_, rfl, (hS.partD (.cons _ (.cons_cons _ (.cons_cons _ .slnil))) 4 rfl (.refl _)), ?_⟩
  intro a hA
  refine any_take (v := .agg #[.bool ((rb re.num)), .slice f15_1 ((words re.num.natAbs).length) f15_c1, .slice f15_2 ((words re.den).length) f15_c2, .bool ((rb im.num)), .slice f20_1 ((words im.num.natAbs).length) f20_c1, .slice f20_2 ((words im.den).length) f20_c2]) hA 10 rfl rfl rfl rfl (by kernel_rfl) (by kernel_rfl) (by kernel_rfl) (fun c a w h => hP c a _ _ w h) (hS.partD (.cons _ (.cons_cons _ (.cons_cons _ .slnil))) 4 rfl (.refl _)) (fun w1 hS => does_build rfl (fun w => by kernel_rfl)) ?_
  intro a hA
  refine any_one (by kernel_rfl) (op_call hA 11 rfl rfl rfl rfl (enters_func  rfl rfl (fun w => by kernel_rfl)) (rfit_any (show Nm _ (Q6.rat re im) f15_1 f15_c1 f15_2 f15_c2 f20_1 f20_c1 f20_2 f20_c2 from ⟨⟨(hS.rd 3 rfl), hs16.nil, hs16.cap⟩, ⟨(hS.rd 2 rfl), hs17.nil, hs17.cap⟩, ⟨(hS.rd 1 rfl), hs21.nil, hs21.cap⟩, ⟨(hS.rd 0 rfl), hs22.nil, hs22.cap⟩⟩) l1 l2) ?_)
  rintro _ w28 ⟨p25_1, p25_c1, p25_2, p25_c2, p25_3, p25_c3, p25_4, p25_c4, rfl, hn26, hb27⟩
  replace hS := hS.call hb27
  replace hS := hS.addR hn26.s1.rd
  replace hS := hS.addR hn26.s2.rd
  replace hS := hS.addR hn26.s3.rd
  replace hS := hS.addR hn26.s4.rd
  refine ⟨_, rfl, (hS.partD (.cons _ (.cons_cons _ (.cons_cons _ .slnil))) 8 rfl (.refl _)), ?_⟩
  intro a hA
  refine any_take (v := .agg #[.bool ((ratS re im).1.b1), .slice p25_1 (((ratS re im).1.t1).length) p25_c1, .slice p25_2 (((ratS re im).1.q1).length) p25_c2, .bool ((ratS re im).1.b2), .slice p25_3 (((ratS re im).1.t2).length) p25_c3, .slice p25_4 (((ratS re im).1.q2).length) p25_c4]) hA 12 rfl rfl rfl rfl (by kernel_rfl) (by kernel_rfl) (by kernel_rfl) (fun c a w h => hP c a _ _ w h) (hS.partD (.cons _ (.cons_cons _ (.cons_cons _ .slnil))) 8 rfl (.refl _)) (fun w1 hS => does_extract (vs := [.agg #[.bool ((ratS re im).1.b1), .slice p25_1 (((ratS re im).1.t1).length) p25_c1, .slice p25_2 (((ratS re im).1.q1).length) p25_c2, .bool ((ratS re im).1.b2), .slice p25_3 (((ratS re im).1.t2).length) p25_c3, .slice p25_4 (((ratS re im).1.q2).length) p25_c4], .int .i64 ((ratS re im).2)]) rfl rfl) ?_
  intro a hA
  refine any_take (v := .int .i64 ((ratS re im).2)) hA 13 rfl rfl rfl rfl (by kernel_rfl) (by kernel_rfl) (by kernel_rfl) (fun c a w h => hP c a _ _ w h) (hS.partD (.cons _ (.cons_cons _ (.cons_cons _ .slnil))) 8 rfl (.refl _)) (fun w1 hS => does_extract (vs := [.agg #[.bool ((ratS re im).1.b1), .slice p25_1 (((ratS re im).1.t1).length) p25_c1, .slice p25_2 (((ratS re im).1.q1).length) p25_c2, .bool ((ratS re im).1.b2), .slice p25_3 (((ratS re im).1.t2).length) p25_c3, .slice p25_4 (((ratS re im).1.q2).length) p25_c4], .int .i64 ((ratS re im).2)]) rfl rfl) ?_
  intro a hA
  refine any_one (by kernel_rfl) (op_store (us := [.bool ((ratS re im).1.b1), .slice p25_1 (((ratS re im).1.t1).length) p25_c1, .slice p25_2 (((ratS re im).1.q1).length) p25_c2, .bool ((ratS re im).1.b2), .slice p25_3 (((ratS re im).1.t2).length) p25_c3, .slice p25_4 (((ratS re im).1.q2).length) p25_c4]) hA hS 14 rfl rfl rfl (sets_store (cs := [.bool ((ratS re im).1.b1), .slice p25_1 (((ratS re im).1.t1).length) p25_c1, .slice p25_2 (((ratS re im).1.q1).length) p25_c2, .bool ((ratS re im).1.b2), .slice p25_3 (((ratS re im).1.t2).length) p25_c3, .slice p25_4 (((ratS re im).1.q2).length) p25_c4]) rfl rfl rfl (by kernel_rfl) hS 0 rfl rfl rfl) 0 rfl rfl rfl rfl ?_)
  intro w29 hS
  refine ⟨(hS.partD (.cons _ (.cons_cons _ (.cons_cons _ .slnil))) 8 rfl (.refl _)), ?_⟩
  refine any_take hA 15 rfl rfl rfl rfl (by kernel_rfl) (by kernel_rfl) (by kernel_rfl) (fun c a w h => hP c a _ _ w h) (hS.partD (.cons _ (.cons_cons _ (.cons_cons _ .slnil))) 8 rfl (.refl _)) (fun w1 hS => does_assign rfl) ?_
  intro a hA
  refine any_end (by kernel_rfl) ?_
  refine hK14 _ _ ?_
  refine wp_ret ?_
  refine hret _ _ ?_
  refine ends (v := .tuple #[.agg #[.bool ((ratS re im).1.b1), .slice p25_1 (((ratS re im).1.t1).length) p25_c1, .slice p25_2 (((ratS re im).1.q1).length) p25_c2, .bool ((ratS re im).1.b2), .slice p25_3 (((ratS re im).1.t2).length) p25_c3, .slice p25_4 (((ratS re im).1.q2).length) p25_c4], .int .i64 ((ratS re im).2)]) hA rfl (.cons (res_cell hS RfC_isS_26 rfl 0 rfl (cs := [.bool ((ratS re im).1.b1), .slice p25_1 (((ratS re im).1.t1).length) p25_c1, .slice p25_2 (((ratS re im).1.q1).length) p25_c2, .bool ((ratS re im).1.b2), .slice p25_3 (((ratS re im).1.t2).length) p25_c3, .slice p25_4 (((ratS re im).1.q2).length) p25_c4]) rfl rfl) (.cons (res_tmp rfl) .nil)) rfl ?_
  exact ⟨p25_1, p25_c1, p25_2, p25_c2, p25_3, p25_c3, p25_4, p25_c4, rfl, ⟨⟨(hS.rd 3 rfl), hn26.s1.nil, hn26.s1.cap⟩, ⟨(hS.rd 2 rfl), hn26.s2.nil, hn26.s2.cap⟩, ⟨(hS.rd 1 rfl), hn26.s3.nil, hn26.s3.cap⟩, ⟨(hS.rd 0 rfl), hn26.s4.nil, hn26.s4.cap⟩⟩, hS.bel⟩
theorem rsubW_any {w : World} {u v x y : Rat} {a1 a2 a3 a4 : Option Addr} {ac1 ac2 ac3 ac4 : Nat} (ha : Nm w (Q6.rat u v) a1 ac1 a2 ac2 a3 ac3 a4 ac4) {u1 u2 u3 u4 : Option Addr} {uc1 uc2 uc3 uc4 : Nat} (hb : Nm w (Q6.rat x y) u1 uc1 u2 uc2 u3 uc3 u4 uc4) (hu : fitR u) (hv : fitR v) (hx : fitR x) (hy : fitR y) (LR_u : LenR 512 u) (LR_v : LenR 512 v) (LR_x : LenR 512 x) (LR_y : LenR 512 y) {mx my re im : Rat} (m1 : -x = mx) (m2 : -y = my) (h1 : u + mx = re) (h2 : v + my = im) (LR_mx : LenR 512 mx) (LR_my : LenR 512 my) (l1 : LenR 9000 re) (l2 : LenR 9000 im) : Calls Tryz.prog 11 #[numV (Q6.rat u v) a1 ac1 a2 ac2 a3 ac3 a4 ac4, numV (Q6.rat x y) u1 uc1 u2 uc2 u3 uc3 u4 uc4] w (AnsN w (ratS re im)) := by
  have hS : St w w [] [(u4, words y.den), (u3, words y.num.natAbs), (u2, words x.den), (u1, words x.num.natAbs), (a4, words v.den), (a3, words v.num.natAbs), (a2, words u.den), (a1, words u.num.natAbs)] [] := ((((((((St.start w).addR ha.s1.rd).addR ha.s2.rd).addR ha.s3.rd).addR ha.s4.rd).addR hb.s1.rd).addR hb.s2.rd).addR hb.s3.rd).addR hb.s4.rd
  refine walk_of (l := [(0, .agg #[.bool (rb u.num), .slice a1 ((words u.num.natAbs).length) ac1, .slice a2 ((words u.den).length) ac2, .bool (rb v.num), .slice a3 ((words v.num.natAbs).length) ac3, .slice a4 ((words v.den).length) ac4]), (1, .agg #[.bool (rb x.num), .slice u1 ((words x.num.natAbs).length) uc1, .slice u2 ((words x.den).length) uc2, .bool (rb y.num), .slice u3 ((words y.num.natAbs).length) uc3, .slice u4 ((words y.den).length) uc4])]) Tryz.func11 rfl Tryz.ntmps11 rfl rfl ?_
  intro Q hret hnorm hP a hA
  refine wp_seq_k (fun K1 hK1 => ?_)
  refine wp_region_lit ?_
  refine seq_new (vs := [.bool (rb u.num), .slice a1 ((words u.num.natAbs).length) ac1, .slice a2 ((words u.den).length) ac2, .bool (rb v.num), .slice a3 ((words v.num.natAbs).length) ac3, .slice a4 ((words v.den).length) ac4]) (t := 26) hA hS rfl rfl rfl (fun g => .pointer (some ⟨g, 0, none⟩)) (does_box rfl rfl) rfl ?_
  intro g2 w3 hS a hA
  refine seq_new (vs := [.bool (rb x.num), .slice u1 ((words x.num.natAbs).length) uc1, .slice u2 ((words x.den).length) uc2, .bool (rb y.num), .slice u3 ((words y.num.natAbs).length) uc3, .slice u4 ((words y.den).length) uc4]) (t := 26) hA hS rfl rfl rfl (fun g => .pointer (some ⟨g, 0, none⟩)) (does_box rfl rfl) rfl ?_
  intro g4 w5 hS a hA
  refine seq_new (vs := [.bool false, .slice none 0 0, .slice none 0 0, .bool false, .slice none 0 0, .slice none 0 0]) (t := 26) hA hS rfl rfl rfl (fun g => .pointer (some ⟨g, 0, none⟩)) (does_alloc (z := .agg #[.bool false, .slice none 0 0, .slice none 0 0, .bool false, .slice none 0 0, .slice none 0 0]) (by kernel_rfl) rfl) rfl ?_
  intro g6 w7 hS a hA
  refine seq_do hA rfl rfl rfl (does_assign rfl) ?_
  intro a hA
  refine seq_end ?_
  refine hK1 _ _ ?_
  refine wp_seq_k (fun K8 hK8 => ?_)
  refine wp_seq_k (fun K9 hK9 => ?_)
  refine wp_region_lit ?_
  refine seq_do (v := .agg #[.bool (rb u.num), .slice a1 ((words u.num.natAbs).length) ac1, .slice a2 ((words u.den).length) ac2, .bool (rb v.num), .slice a3 ((words v.num.natAbs).length) ac3, .slice a4 ((words v.den).length) ac4]) hA rfl rfl rfl (does_loadS hS RfC_isS_26 rfl 2 rfl (cs := [.bool (rb u.num), .slice a1 ((words u.num.natAbs).length) ac1, .slice a2 ((words u.den).length) ac2, .bool (rb v.num), .slice a3 ((words v.num.natAbs).length) ac3, .slice a4 ((words v.den).length) ac4]) rfl rfl) ?_
  intro a hA
  refine seq_call hA rfl rfl rfl (enters_func  rfl rfl (fun w => by kernel_rfl)) (rsoundQ_any (show Nm _ (Q6.rat u v) a1 ac1 a2 ac2 a3 ac3 a4 ac4 from ⟨⟨(hS.rd 7 rfl), ha.s1.nil, ha.s1.cap⟩, ⟨(hS.rd 6 rfl), ha.s2.nil, ha.s2.cap⟩, ⟨(hS.rd 5 rfl), ha.s3.nil, ha.s3.cap⟩, ⟨(hS.rd 4 rfl), ha.s4.nil, ha.s4.cap⟩⟩) (lenQ_rat hu hv) (soundQ_rat hu hv)) ?_
  rintro _ w11 ⟨rfl, hb10⟩
  replace hS := hS.call hb10
  refine ⟨_, rfl, ?_⟩
  intro a hA
  refine seq_do (v := .bool false) hA rfl rfl rfl (does_un rfl un_not) ?_
  intro a hA
  refine seq_do hA rfl rfl rfl (does_move rfl) ?_
  intro a hA
  refine seq_do (v := .agg #[.bool (rb x.num), .slice u1 ((words x.num.natAbs).length) uc1, .slice u2 ((words x.den).length) uc2, .bool (rb y.num), .slice u3 ((words y.num.natAbs).length) uc3, .slice u4 ((words y.den).length) uc4]) hA rfl rfl rfl (does_loadS hS RfC_isS_26 rfl 1 rfl (cs := [.bool (rb x.num), .slice u1 ((words x.num.natAbs).length) uc1, .slice u2 ((words x.den).length) uc2, .bool (rb y.num), .slice u3 ((words y.num.natAbs).length) uc3, .slice u4 ((words y.den).length) uc4]) rfl rfl) ?_
  intro a hA
  refine seq_call hA rfl rfl rfl (enters_func  rfl rfl (fun w => by kernel_rfl)) (rsoundQ_any (show Nm _ (Q6.rat x y) u1 uc1 u2 uc2 u3 uc3 u4 uc4 from ⟨⟨(hS.rd 3 rfl), hb.s1.nil, hb.s1.cap⟩, ⟨(hS.rd 2 rfl), hb.s2.nil, hb.s2.cap⟩, ⟨(hS.rd 1 rfl), hb.s3.nil, hb.s3.cap⟩, ⟨(hS.rd 0 rfl), hb.s4.nil, hb.s4.cap⟩⟩) (lenQ_rat hx hy) (soundQ_rat hx hy)) ?_
  rintro _ w13 ⟨rfl, hb12⟩
  replace hS := hS.call hb12
  refine ⟨_, rfl, ?_⟩
  intro a hA
  refine seq_do (v := .bool false) hA rfl rfl rfl (does_un rfl un_not) ?_
  intro a hA
  refine seq_do (v := .bool false) hA rfl rfl rfl (does_pick rfl rfl rfl rfl) ?_
  intro a hA
  refine seq_end ?_
  refine hK9 _ _ ?_
  refine wp_cond_false (hA.ev rfl) ?_
  refine wp_skip ?_
  refine hK8 _ _ ?_
  refine wp_seq_k (fun K14 hK14 => ?_)
  refine wp_draw (S := fun w1 => St w w1 [(g4, [.bool (rb x.num), .slice u1 ((words x.num.natAbs).length) uc1, .slice u2 ((words x.den).length) uc2, .bool (rb y.num), .slice u3 ((words y.num.natAbs).length) uc3, .slice u4 ((words y.den).length) uc4]), (g2, [.bool (rb u.num), .slice a1 ((words u.num.natAbs).length) ac1, .slice a2 ((words u.den).length) ac2, .bool (rb v.num), .slice a3 ((words v.num.natAbs).length) ac3, .slice a4 ((words v.den).length) ac4])] [(u4, words y.den), (u3, words y.num.natAbs), (u2, words x.den), (u1, words x.num.natAbs), (a4, words v.den), (a3, words v.num.natAbs), (a2, words u.den), (a1, words u.num.natAbs)] []) (by kernel_rfl) ?_
  replace hS := hS.drew
  refine any_take (v := .pointer (some ⟨g2, 0, none⟩)) hA 0 rfl rfl rfl rfl (by kernel_rfl) (by kernel_rfl) (by kernel_rfl) (fun c a w h => hP c a _ _ w h) (hS.partD (.cons _ (.cons_cons _ (.cons_cons _ .slnil))) 0 rfl (.refl _)) (fun w1 hS => does_field RfC_fld_26_0 rfl rfl) ?_
  intro a hA
  refine any_take (v := .agg #[.bool (rb u.num), .slice a1 ((words u.num.natAbs).length) ac1, .slice a2 ((words u.den).length) ac2]) hA 1 rfl rfl rfl rfl (by kernel_rfl) (by kernel_rfl) (by kernel_rfl) (fun c a w h => hP c a _ _ w h) (hS.partD (.cons _ (.cons_cons _ (.cons_cons _ .slnil))) 0 rfl (.refl _)) (fun w1 hS => does_loadS hS RfC_isS_24 rfl 1 rfl (cs := [.bool (rb u.num), .slice a1 ((words u.num.natAbs).length) ac1, .slice a2 ((words u.den).length) ac2]) rfl rfl) ?_
  intro a hA
  refine any_take (v := .pointer (some ⟨g4, 0, none⟩)) hA 2 rfl rfl rfl rfl (by kernel_rfl) (by kernel_rfl) (by kernel_rfl) (fun c a w h => hP c a _ _ w h) (hS.partD (.cons _ (.cons_cons _ (.cons_cons _ .slnil))) 0 rfl (.refl _)) (fun w1 hS => does_field RfC_fld_26_0 rfl rfl) ?_
  intro a hA
  refine any_take (v := .agg #[.bool (rb x.num), .slice u1 ((words x.num.natAbs).length) uc1, .slice u2 ((words x.den).length) uc2]) hA 3 rfl rfl rfl rfl (by kernel_rfl) (by kernel_rfl) (by kernel_rfl) (fun c a w h => hP c a _ _ w h) (hS.partD (.cons _ (.cons_cons _ (.cons_cons _ .slnil))) 0 rfl (.refl _)) (fun w1 hS => does_loadS hS RfC_isS_24 rfl 0 rfl (cs := [.bool (rb x.num), .slice u1 ((words x.num.natAbs).length) uc1, .slice u2 ((words x.den).length) uc2]) rfl rfl) ?_
  intro a hA
  refine any_take (v := .pointer (some ⟨g2, 3, none⟩)) hA 6 rfl rfl rfl rfl (by kernel_rfl) (by kernel_rfl) (by kernel_rfl) (fun c a w h => hP c a _ _ w h) (hS.partD (.cons _ (.cons_cons _ (.cons_cons _ .slnil))) 0 rfl (.refl _)) (fun w1 hS => does_field RfC_fld_26_1 rfl rfl) ?_
  intro a hA
  refine any_take (v := .agg #[.bool (rb v.num), .slice a3 ((words v.num.natAbs).length) ac3, .slice a4 ((words v.den).length) ac4]) hA 7 rfl rfl rfl rfl (by kernel_rfl) (by kernel_rfl) (by kernel_rfl) (fun c a w h => hP c a _ _ w h) (hS.partD (.cons _ (.cons_cons _ (.cons_cons _ .slnil))) 0 rfl (.refl _)) (fun w1 hS => does_loadS hS RfC_isS_24 rfl 1 rfl (cs := [.bool (rb v.num), .slice a3 ((words v.num.natAbs).length) ac3, .slice a4 ((words v.den).length) ac4]) rfl rfl) ?_
  intro a hA
  refine any_take (v := .pointer (some ⟨g4, 3, none⟩)) hA 8 rfl rfl rfl rfl (by kernel_rfl) (by kernel_rfl) (by kernel_rfl) (fun c a w h => hP c a _ _ w h) (hS.partD (.cons _ (.cons_cons _ (.cons_cons _ .slnil))) 0 rfl (.refl _)) (fun w1 hS => does_field RfC_fld_26_1 rfl rfl) ?_
  intro a hA
  refine any_take (v := .agg #[.bool (rb y.num), .slice u3 ((words y.num.natAbs).length) uc3, .slice u4 ((words y.den).length) uc4]) hA 9 rfl rfl rfl rfl (by kernel_rfl) (by kernel_rfl) (by kernel_rfl) (fun c a w h => hP c a _ _ w h) (hS.partD (.cons _ (.cons_cons _ (.cons_cons _ .slnil))) 0 rfl (.refl _)) (fun w1 hS => does_loadS hS RfC_isS_24 rfl 0 rfl (cs := [.bool (rb y.num), .slice u3 ((words y.num.natAbs).length) uc3, .slice u4 ((words y.den).length) uc4]) rfl rfl) ?_
  intro a hA
  refine any_one (by kernel_rfl) (op_call hA 4 rfl rfl rfl rfl (enters_func  rfl rfl (fun w => by kernel_rfl)) (rminusR_any ⟨(hS.rd 3 rfl), hb.s1.nil, hb.s1.cap⟩ ⟨(hS.rd 2 rfl), hb.s2.nil, hb.s2.cap⟩ m1) ?_)
  rintro _ w19 ⟨f15_1, f15_c1, f15_2, f15_c2, rfl, hs16, hs17, hb18⟩
  replace hS := hS.call hb18
  replace hS := hS.addR hs16.rd
  replace hS := hS.addR hs17.rd
  refine ⟨_, rfl, (hS.partD (.cons _ (.cons_cons _ (.cons_cons _ .slnil))) 2 rfl (.refl _)), ?_⟩
  intro a hA
  refine any_one (by kernel_rfl) (op_call hA 5 rfl rfl rfl rfl (enters_func  rfl rfl (fun w => by kernel_rfl)) (rsumR_any ⟨(hS.rd 9 rfl), ha.s1.nil, ha.s1.cap⟩ ⟨(hS.rd 8 rfl), ha.s2.nil, ha.s2.cap⟩ ⟨(hS.rd 1 rfl), hs16.nil, hs16.cap⟩ ⟨(hS.rd 0 rfl), hs17.nil, hs17.cap⟩ (LR_u.mono (by decide)) (LR_mx.mono (by decide)) h1) ?_)
  rintro _ w24 ⟨f20_1, f20_c1, f20_2, f20_c2, rfl, hs21, hs22, hb23⟩
  replace hS := hS.call hb23
  replace hS := hS.addR hs21.rd
  replace hS := hS.addR hs22.rd
  refine ⟨_, rfl, (hS.partD (.cons _ (.cons_cons _ (.cons_cons _ .slnil))) 4 rfl (.refl _)), ?_⟩
  intro a hA
  refine any_one (by kernel_rfl) (op_call hA 10 rfl rfl rfl rfl (enters_func  rfl rfl (fun w => by kernel_rfl)) (rminusR_any ⟨(hS.rd 5 rfl), hb.s3.nil, hb.s3.cap⟩ ⟨(hS.rd 4 rfl), hb.s4.nil, hb.s4.cap⟩ m2) ?_)
  rintro _ w29 ⟨f25_1, f25_c1, f25_2, f25_c2, rfl, hs26, hs27, hb28⟩
  replace hS := hS.call hb28
  replace hS := hS.addR hs26.rd
  replace hS := hS.addR hs27.rd
  refine ⟨_, rfl, (hS.partD (.cons _ (.cons_cons _ (.cons_cons _ .slnil))) 6 rfl (.refl _)), ?_⟩
  intro a hA
  refine any_one (by kernel_rfl) (op_call hA 11 rfl rfl rfl rfl (enters_func  rfl rfl (fun w => by kernel_rfl)) (rsumR_any ⟨(hS.rd 11 rfl), ha.s3.nil, ha.s3.cap⟩ ⟨(hS.rd 10 rfl), ha.s4.nil, ha.s4.cap⟩ ⟨(hS.rd 1 rfl), hs26.nil, hs26.cap⟩ ⟨(hS.rd 0 rfl), hs27.nil, hs27.cap⟩ (LR_v.mono (by decide)) (LR_my.mono (by decide)) h2) ?_)
  rintro _ w34 ⟨f30_1, f30_c1, f30_2, f30_c2, rfl, hs31, hs32, hb33⟩
  replace hS := hS.call hb33
  replace hS := hS.addR hs31.rd
  replace hS := hS.addR hs32.rd
  refine ⟨_, rfl, (hS.partD (.cons _ (.cons_cons _ (.cons_cons _ .slnil))) 8 rfl (.refl _)), ?_⟩
  intro a hA
  refine any_take (v := .agg #[.bool ((rb re.num)), .slice f20_1 ((words re.num.natAbs).length) f20_c1, .slice f20_2 ((words re.den).length) f20_c2, .bool ((rb im.num)), .slice f30_1 ((words im.num.natAbs).length) f30_c1, .slice f30_2 ((words im.den).length) f30_c2]) hA 12 rfl rfl rfl rfl (by kernel_rfl) (by kernel_rfl) (by kernel_rfl) (fun c a w h => hP c a _ _ w h) (hS.partD (.cons _ (.cons_cons _ (.cons_cons _ .slnil))) 8 rfl (.refl _)) (fun w1 hS => does_build rfl (fun w => by kernel_rfl)) ?_
  intro a hA
  refine any_one (by kernel_rfl) (op_call hA 13 rfl rfl rfl rfl (enters_func  rfl rfl (fun w => by kernel_rfl)) (rfit_any (show Nm _ (Q6.rat re im) f20_1 f20_c1 f20_2 f20_c2 f30_1 f30_c1 f30_2 f30_c2 from ⟨⟨(hS.rd 5 rfl), hs21.nil, hs21.cap⟩, ⟨(hS.rd 4 rfl), hs22.nil, hs22.cap⟩, ⟨(hS.rd 1 rfl), hs31.nil, hs31.cap⟩, ⟨(hS.rd 0 rfl), hs32.nil, hs32.cap⟩⟩) l1 l2) ?_)
  rintro _ w38 ⟨p35_1, p35_c1, p35_2, p35_c2, p35_3, p35_c3, p35_4, p35_c4, rfl, hn36, hb37⟩
  replace hS := hS.call hb37
  replace hS := hS.addR hn36.s1.rd
  replace hS := hS.addR hn36.s2.rd
  replace hS := hS.addR hn36.s3.rd
  replace hS := hS.addR hn36.s4.rd
  refine ⟨_, rfl, (hS.partD (.cons _ (.cons_cons _ (.cons_cons _ .slnil))) 12 rfl (.refl _)), ?_⟩
  intro a hA
  refine any_take (v := .agg #[.bool ((ratS re im).1.b1), .slice p35_1 (((ratS re im).1.t1).length) p35_c1, .slice p35_2 (((ratS re im).1.q1).length) p35_c2, .bool ((ratS re im).1.b2), .slice p35_3 (((ratS re im).1.t2).length) p35_c3, .slice p35_4 (((ratS re im).1.q2).length) p35_c4]) hA 14 rfl rfl rfl rfl (by kernel_rfl) (by kernel_rfl) (by kernel_rfl) (fun c a w h => hP c a _ _ w h) (hS.partD (.cons _ (.cons_cons _ (.cons_cons _ .slnil))) 12 rfl (.refl _)) (fun w1 hS => does_extract (vs := [.agg #[.bool ((ratS re im).1.b1), .slice p35_1 (((ratS re im).1.t1).length) p35_c1, .slice p35_2 (((ratS re im).1.q1).length) p35_c2, .bool ((ratS re im).1.b2), .slice p35_3 (((ratS re im).1.t2).length) p35_c3, .slice p35_4 (((ratS re im).1.q2).length) p35_c4], .int .i64 ((ratS re im).2)]) rfl rfl) ?_
  intro a hA
  refine any_take (v := .int .i64 ((ratS re im).2)) hA 15 rfl rfl rfl rfl (by kernel_rfl) (by kernel_rfl) (by kernel_rfl) (fun c a w h => hP c a _ _ w h) (hS.partD (.cons _ (.cons_cons _ (.cons_cons _ .slnil))) 12 rfl (.refl _)) (fun w1 hS => does_extract (vs := [.agg #[.bool ((ratS re im).1.b1), .slice p35_1 (((ratS re im).1.t1).length) p35_c1, .slice p35_2 (((ratS re im).1.q1).length) p35_c2, .bool ((ratS re im).1.b2), .slice p35_3 (((ratS re im).1.t2).length) p35_c3, .slice p35_4 (((ratS re im).1.q2).length) p35_c4], .int .i64 ((ratS re im).2)]) rfl rfl) ?_
  intro a hA
  refine any_one (by kernel_rfl) (op_store (us := [.bool ((ratS re im).1.b1), .slice p35_1 (((ratS re im).1.t1).length) p35_c1, .slice p35_2 (((ratS re im).1.q1).length) p35_c2, .bool ((ratS re im).1.b2), .slice p35_3 (((ratS re im).1.t2).length) p35_c3, .slice p35_4 (((ratS re im).1.q2).length) p35_c4]) hA hS 16 rfl rfl rfl (sets_store (cs := [.bool ((ratS re im).1.b1), .slice p35_1 (((ratS re im).1.t1).length) p35_c1, .slice p35_2 (((ratS re im).1.q1).length) p35_c2, .bool ((ratS re im).1.b2), .slice p35_3 (((ratS re im).1.t2).length) p35_c3, .slice p35_4 (((ratS re im).1.q2).length) p35_c4]) rfl rfl rfl (by kernel_rfl) hS 0 rfl rfl rfl) 0 rfl rfl rfl rfl ?_)
  intro w39 hS
  refine ⟨(hS.partD (.cons _ (.cons_cons _ (.cons_cons _ .slnil))) 12 rfl (.refl _)), ?_⟩
  refine any_take hA 17 rfl rfl rfl rfl (by kernel_rfl) (by kernel_rfl) (by kernel_rfl) (fun c a w h => hP c a _ _ w h) (hS.partD (.cons _ (.cons_cons _ (.cons_cons _ .slnil))) 12 rfl (.refl _)) (fun w1 hS => does_assign rfl) ?_
  intro a hA
  refine any_end (by kernel_rfl) ?_
  refine hK14 _ _ ?_
  refine wp_ret ?_
  refine hret _ _ ?_
  refine ends (v := .tuple #[.agg #[.bool ((ratS re im).1.b1), .slice p35_1 (((ratS re im).1.t1).length) p35_c1, .slice p35_2 (((ratS re im).1.q1).length) p35_c2, .bool ((ratS re im).1.b2), .slice p35_3 (((ratS re im).1.t2).length) p35_c3, .slice p35_4 (((ratS re im).1.q2).length) p35_c4], .int .i64 ((ratS re im).2)]) hA rfl (.cons (res_cell hS RfC_isS_26 rfl 0 rfl (cs := [.bool ((ratS re im).1.b1), .slice p35_1 (((ratS re im).1.t1).length) p35_c1, .slice p35_2 (((ratS re im).1.q1).length) p35_c2, .bool ((ratS re im).1.b2), .slice p35_3 (((ratS re im).1.t2).length) p35_c3, .slice p35_4 (((ratS re im).1.q2).length) p35_c4]) rfl rfl) (.cons (res_tmp rfl) .nil)) rfl ?_
  exact ⟨p35_1, p35_c1, p35_2, p35_c2, p35_3, p35_c3, p35_4, p35_c4, rfl, ⟨⟨(hS.rd 3 rfl), hn36.s1.nil, hn36.s1.cap⟩, ⟨(hS.rd 2 rfl), hn36.s2.nil, hn36.s2.cap⟩, ⟨(hS.rd 1 rfl), hn36.s3.nil, hn36.s3.cap⟩, ⟨(hS.rd 0 rfl), hn36.s4.nil, hn36.s4.cap⟩⟩, hS.bel⟩
theorem raddQ_any {w : World} {p q : Q6} {a1 a2 a3 a4 : Option Addr} {ac1 ac2 ac3 ac4 : Nat} (ha : Nm w p a1 ac1 a2 ac2 a3 ac3 a4 ac4) (hl : LenQ p) {u1 u2 u3 u4 : Option Addr} {uc1 uc2 uc3 uc4 : Nat} (hb : Nm w q u1 uc1 u2 uc2 u3 uc3 u4 uc4) (hm : LenQ q) : Calls Tryz.prog 9 #[numV p a1 ac1 a2 ac2 a3 ac3 a4 ac4, numV q u1 uc1 u2 uc2 u3 uc3 u4 uc4] w (AnsN w (addQ p q)) := by
  rcases sound_cases ha with h1 | ⟨u, v, rfl, hu, hv⟩
  · rw [show addQ p q = (Q6.zero, 2) from if_neg (fun k => by rw [h1] at k; cases k.1)]
    exact raddE1_any ha hl hb hm h1
  · rcases sound_cases hb with h2 | ⟨x, y, rfl, hx, hy⟩
    · rw [show addQ _ q = (Q6.zero, 2) from if_neg (fun k => by rw [h2] at k; cases k.2)]
      exact raddE2_any ha hl hb hm (soundQ_rat hu hv) h2
    · rw [addQ_rat hu hv hx hy]
      have fu := fit_lenR hu
      have fv := fit_lenR hv
      have fx := fit_lenR hx
      have fy := fit_lenR hy
      exact raddW_any ha hb hu hv hx hy fu fv fx fy rfl rfl ((lenR_add fu fx).mono (by decide)) ((lenR_add fv fy).mono (by decide))
theorem raddQ_as {w : World} {p q : Q6} {a1 a2 a3 a4 : Option Addr} {ac1 ac2 ac3 ac4 : Nat} (ha : Nm w p a1 ac1 a2 ac2 a3 ac3 a4 ac4) (hl : LenQ p) {u1 u2 u3 u4 : Option Addr} {uc1 uc2 uc3 uc4 : Nat} (hb : Nm w q u1 uc1 u2 uc2 u3 uc3 u4 uc4) (hm : LenQ q) {z : Q6 × Int} (hz : addQ p q = z) : Calls Tryz.prog 9 #[numV p a1 ac1 a2 ac2 a3 ac3 a4 ac4, numV q u1 uc1 u2 uc2 u3 uc3 u4 uc4] w (AnsN w z) := hz ▸ raddQ_any ha hl hb hm
theorem rsubQ_any {w : World} {p q : Q6} {a1 a2 a3 a4 : Option Addr} {ac1 ac2 ac3 ac4 : Nat} (ha : Nm w p a1 ac1 a2 ac2 a3 ac3 a4 ac4) (hl : LenQ p) {u1 u2 u3 u4 : Option Addr} {uc1 uc2 uc3 uc4 : Nat} (hb : Nm w q u1 uc1 u2 uc2 u3 uc3 u4 uc4) (hm : LenQ q) : Calls Tryz.prog 11 #[numV p a1 ac1 a2 ac2 a3 ac3 a4 ac4, numV q u1 uc1 u2 uc2 u3 uc3 u4 uc4] w (AnsN w (subQ p q)) := by
  rcases sound_cases ha with h1 | ⟨u, v, rfl, hu, hv⟩
  · rw [show subQ p q = (Q6.zero, 2) from if_neg (fun k => by rw [h1] at k; cases k.1)]
    exact rsubE1_any ha hl hb hm h1
  · rcases sound_cases hb with h2 | ⟨x, y, rfl, hx, hy⟩
    · rw [show subQ _ q = (Q6.zero, 2) from if_neg (fun k => by rw [h2] at k; cases k.2)]
      exact rsubE2_any ha hl hb hm (soundQ_rat hu hv) h2
    · rw [subQ_rat hu hv hx hy]
      have fu := fit_lenR hu
      have fv := fit_lenR hv
      have fx := fit_lenR hx
      have fy := fit_lenR hy
      rw [Rat.sub_eq_add_neg, Rat.sub_eq_add_neg]
      exact rsubW_any ha hb hu hv hx hy fu fv fx fy rfl rfl rfl rfl (lenR_neg fx) (lenR_neg fy) ((lenR_add fu (lenR_neg fx)).mono (by decide)) ((lenR_add fv (lenR_neg fy)).mono (by decide))
theorem rsubQ_as {w : World} {p q : Q6} {a1 a2 a3 a4 : Option Addr} {ac1 ac2 ac3 ac4 : Nat} (ha : Nm w p a1 ac1 a2 ac2 a3 ac3 a4 ac4) (hl : LenQ p) {u1 u2 u3 u4 : Option Addr} {uc1 uc2 uc3 uc4 : Nat} (hb : Nm w q u1 uc1 u2 uc2 u3 uc3 u4 uc4) (hm : LenQ q) {z : Q6 × Int} (hz : subQ p q = z) : Calls Tryz.prog 11 #[numV p a1 ac1 a2 ac2 a3 ac3 a4 ac4, numV q u1 uc1 u2 uc2 u3 uc3 u4 uc4] w (AnsN w z) := hz ▸ rsubQ_any ha hl hb hm
theorem cmpR_sub (u v : Rat) {d : Rat} (hd : u + -v = d) : cmpR u v = if (words d.num.natAbs).length = 0 then 0 else if rb d.num = true then -1 else 1 := by
  have e : (words d.num.natAbs).length = 0 ↔ d = 0 := by
    constructor
    · intro h
      have e1 := words_eq_nil.1 (List.length_eq_zero_iff.1 h)
      exact Rat.num_eq_zero.1 (by omega)
    · intro h
      rw [h, show (0 : Rat).num.natAbs = 0 from rfl, words_zero]
      rfl
  have k : rb d.num = true ↔ d < 0 := by
    have m := mk_lt (x := d.num) (y := 0) (d := d.den) (k := 1) d.den_nz (by decide)
    rw [Rat.mkRat_self, Rat.zero_mkRat] at m
    rw [m]
    unfold rb
    rw [decide_eq_true_eq]
    omega
  unfold cmpR
  by_cases h1 : u < v
  · rw [if_pos h1, if_neg (fun c => by have := e.1 c; grind), if_pos (k.2 (by grind))]
  · rw [if_neg h1]
    by_cases h2 : u = v
    · rw [if_pos h2, if_pos (e.2 (by grind))]
    · rw [if_neg h2, if_neg (fun c => h2 (by have := e.1 c; grind)), if_neg (fun c => h1 (by have := k.1 c; grind))]
theorem rorderR_any {w : World} {u v : Rat} {a1 a2 : Option Addr} {ac1 ac2 : Nat} (ha1 : Sc w a1 ac1 (words u.num.natAbs)) (ha2 : Sc w a2 ac2 (words u.den)) {u1 u2 : Option Addr} {uc1 uc2 : Nat} (hu1 : Sc w u1 uc1 (words v.num.natAbs)) (hu2 : Sc w u2 uc2 (words v.den)) (LR_u : LenR 512 u) (LR_v : LenR 512 v) {m d : Rat} (m1 : -v = m) (h0 : u + m = d) (h1 : u + -v = d) (LR_m : LenR 512 m) (ld : LenR 9000 d) : Calls Tryz.prog 47 #[.agg #[.bool (rb u.num), .slice a1 (words u.num.natAbs).length ac1, .slice a2 (words u.den).length ac2], .agg #[.bool (rb v.num), .slice u1 (words v.num.natAbs).length uc1, .slice u2 (words v.den).length uc2]] w fun e w' => e = .returned (.int .i64 (cmpR u v)) ∧ Below w.heap.size w w' := by
  have kd := ld.1
  have hS : St w w [] [(u2, words v.den), (u1, words v.num.natAbs), (a2, words u.den), (a1, words u.num.natAbs)] [] := ((((St.start w).addR ha1.rd).addR ha2.rd).addR hu1.rd).addR hu2.rd
  refine walk_of (l := [(0, .agg #[.bool ((rb u.num)), .slice a1 ((words u.num.natAbs).length) ac1, .slice a2 ((words u.den).length) ac2]), (1, .agg #[.bool ((rb v.num)), .slice u1 ((words v.num.natAbs).length) uc1, .slice u2 ((words v.den).length) uc2])]) Tryz.func47 rfl Tryz.ntmps47 rfl rfl ?_
  intro Q hret hnorm hP a hA
  refine wp_seq_k (fun K1 hK1 => ?_)
  refine wp_region_lit ?_
  refine seq_new (vs := [.bool ((rb u.num)), .slice a1 ((words u.num.natAbs).length) ac1, .slice a2 ((words u.den).length) ac2]) (t := 24) hA hS rfl rfl rfl (fun g => .pointer (some ⟨g, 0, none⟩)) (does_box rfl rfl) rfl ?_
  intro g2 w3 hS a hA
  refine seq_new (vs := [.bool ((rb v.num)), .slice u1 ((words v.num.natAbs).length) uc1, .slice u2 ((words v.den).length) uc2]) (t := 24) hA hS rfl rfl rfl (fun g => .pointer (some ⟨g, 0, none⟩)) (does_box rfl rfl) rfl ?_
  intro g4 w5 hS a hA
  refine seq_do hA rfl rfl rfl (does_assign rfl) ?_
  intro a hA
  refine seq_end ?_
  refine hK1 _ _ ?_
  refine wp_seq_k (fun K6 hK6 => ?_)
  have hJ29 : ∀ a w1, (∃ (J20g : Nat) (J21 : Option Addr) (J22 : Nat) (J23 : Option Addr) (J24 : Nat), Sl a 16 [(0, .agg #[.bool ((rb u.num)), .slice a1 ((words u.num.natAbs).length) ac1, .slice a2 ((words u.den).length) ac2]), (1, .agg #[.bool ((rb v.num)), .slice u1 ((words v.num.natAbs).length) uc1, .slice u2 ((words v.den).length) uc2]), (4, .int .i64 0), (5, .pointer (some ⟨J20g, 0, none⟩))] ∧ St w w1 [(J20g, [.bool ((rb d.num)), .slice J21 ((words d.num.natAbs).length) J22, .slice J23 ((words d.den).length) J24]), (g4, [.bool ((rb v.num)), .slice u1 ((words v.num.natAbs).length) uc1, .slice u2 ((words v.den).length) uc2]), (g2, [.bool ((rb u.num)), .slice a1 ((words u.num.natAbs).length) ac1, .slice a2 ((words u.den).length) ac2])] [(J23, words d.den), (J21, words d.num.natAbs), (u2, words v.den), (u1, words v.num.natAbs), (a2, words u.den), (a1, words u.num.natAbs)] [] ∧ (J23 = none → J24 = 0) ∧ (words d.den : List Nat).length ≤ J24 ∧ (J21 = none → J22 = 0) ∧ (words d.num.natAbs : List Nat).length ≤ J22) → K6 a w1 := by
    clear hA hS
    rintro a w30 ⟨J20g, J21, J22, J23, J24, hA, hS, hn25, hc26, hn27, hc28⟩
    refine hK6 _ _ ?_
    refine wp_seq_k (fun K31 hK31 => ?_)
    refine wp_seq_k (fun K32 hK32 => ?_)
    refine wp_region_lit ?_
    refine seq_do (v := .pointer (some ⟨J20g, 1, none⟩)) hA rfl rfl rfl (does_field RfC_fld_24_1 rfl rfl) ?_
    intro a hA
    refine seq_do hA rfl rfl rfl (does_load1 hS RfC_is1_22 rfl 0 rfl rfl) ?_
    intro a hA
    refine seq_do (v := .int .i64 ((((words d.num.natAbs).length : Nat) : Int))) hA rfl rfl rfl (does_len Tryz.underlying22 rfl) ?_
    intro a hA
    rcases Bool.eq_false_or_eq_true (((((words d.num.natAbs).length : Nat) : Int) == 0)) with hb33 | hb33
    · have hb33' := eq_of_beq hb33
      refine seq_do (v := .bool true) hA rfl rfl rfl (does_bin rfl rfl (fun w => (bin_eql w).trans (by rw [hb33]))) ?_
      intro a hA
      refine seq_end ?_
      refine hK32 _ _ ?_
      refine wp_cond_true (hA.ev rfl) ?_
      refine wp_seq_k (fun K34 hK34 => ?_)
      refine wp_region_lit ?_
      refine seq_do hA rfl rfl rfl (does_assign rfl) ?_
      intro a hA
      refine seq_end ?_
      refine hK34 _ _ ?_
      refine wp_ret ?_
      refine hret _ _ ?_
      refine ends (v := .int .i64 0) hA rfl (.cons (res_tmp rfl) .nil) rfl ?_
      rw [cmpR_sub u v h1]
      have f1 : (words d.num.natAbs).length = 0 := by omega
      exact ⟨by rw [if_pos f1], hS.bel⟩
    · have hb33' := ne_of_beq_false hb33
      refine seq_do (v := .bool false) hA rfl rfl rfl (does_bin rfl rfl (fun w => (bin_eql w).trans (by rw [hb33]))) ?_
      intro a hA
      refine seq_end ?_
      refine hK32 _ _ ?_
      refine wp_cond_false (hA.ev rfl) ?_
      refine wp_skip ?_
      refine hK31 _ _ ?_
      refine wp_seq_k (fun K35 hK35 => ?_)
      refine wp_seq_k (fun K36 hK36 => ?_)
      refine wp_region_lit ?_
      refine seq_do (v := .pointer (some ⟨J20g, 0, none⟩)) hA rfl rfl rfl (does_field RfC_fld_24_0 rfl rfl) ?_
      intro a hA
      refine seq_do hA rfl rfl rfl (does_load1 hS RfC_is1_4 rfl 0 rfl rfl) ?_
      intro a hA
      refine seq_end ?_
      refine hK36 _ _ ?_
      refine wp_cond_split (t := (rb d.num)) (hA.ev rfl) (fun hc37 => ?_) (fun hc37 => ?_)
      · refine wp_seq_k (fun K38 hK38 => ?_)
        refine wp_region_lit ?_
        refine seq_do hA rfl rfl rfl (does_assign rfl) ?_
        intro a hA
        refine seq_end ?_
        refine hK38 _ _ ?_
        refine wp_ret ?_
        refine hret _ _ ?_
        refine ends (v := .int .i64 (-1)) hA rfl (.cons (res_tmp rfl) .nil) rfl ?_
        rw [cmpR_sub u v h1]
        have f1 : ¬ (words d.num.natAbs).length = 0 := by omega
        exact ⟨by rw [if_neg f1, if_pos hc37], hS.bel⟩
      · refine wp_skip ?_
        refine hK35 _ _ ?_
        refine wp_seq_k (fun K39 hK39 => ?_)
        refine wp_region_lit ?_
        refine seq_do hA rfl rfl rfl (does_assign rfl) ?_
        intro a hA
        refine seq_end ?_
        refine hK39 _ _ ?_
        refine wp_ret ?_
        refine hret _ _ ?_
        refine ends (v := .int .i64 1) hA rfl (.cons (res_tmp rfl) .nil) rfl ?_
        rw [cmpR_sub u v h1]
        have f1 : ¬ (words d.num.natAbs).length = 0 := by omega
        exact ⟨by rw [if_neg f1, if_neg (by rw [hc37]; decide)], hS.bel⟩
  refine wp_draw (S := fun w1 => St w w1 [(g4, [.bool ((rb v.num)), .slice u1 ((words v.num.natAbs).length) uc1, .slice u2 ((words v.den).length) uc2]), (g2, [.bool ((rb u.num)), .slice a1 ((words u.num.natAbs).length) ac1, .slice a2 ((words u.den).length) ac2])] [(u2, words v.den), (u1, words v.num.natAbs), (a2, words u.den), (a1, words u.num.natAbs)] []) (by kernel_rfl) ?_
  replace hS := hS.drew
  refine any_take (v := .agg #[.bool ((rb u.num)), .slice a1 ((words u.num.natAbs).length) ac1, .slice a2 ((words u.den).length) ac2]) hA 0 rfl rfl rfl rfl (by kernel_rfl) (by kernel_rfl) (by kernel_rfl) (fun c a w h => hP c a _ _ w h) hS (fun w1 hS => does_loadS hS RfC_isS_24 rfl 1 rfl (cs := [.bool ((rb u.num)), .slice a1 ((words u.num.natAbs).length) ac1, .slice a2 ((words u.den).length) ac2]) rfl rfl) ?_
  intro a hA
  refine any_take (v := .agg #[.bool ((rb v.num)), .slice u1 ((words v.num.natAbs).length) uc1, .slice u2 ((words v.den).length) uc2]) hA 1 rfl rfl rfl rfl (by kernel_rfl) (by kernel_rfl) (by kernel_rfl) (fun c a w h => hP c a _ _ w h) hS (fun w1 hS => does_loadS hS RfC_isS_24 rfl 0 rfl (cs := [.bool ((rb v.num)), .slice u1 ((words v.num.natAbs).length) uc1, .slice u2 ((words v.den).length) uc2]) rfl rfl) ?_
  intro a hA
  refine any_many (rs := [2, 4]) (by kernel_rfl) (by simp) ⟨?_, ?_, trivial⟩
  · refine op_call hA 2 rfl rfl rfl rfl (enters_func  rfl rfl (fun w => by kernel_rfl)) (rminusR_any ⟨(hS.rd 1 rfl), hu1.nil, hu1.cap⟩ ⟨(hS.rd 0 rfl), hu2.nil, hu2.cap⟩ m1) ?_
    rintro _ w44 ⟨f40_1, f40_c1, f40_2, f40_c2, rfl, hs41, hs42, hb43⟩
    replace hS := hS.call hb43
    replace hS := hS.addR hs41.rd
    replace hS := hS.addR hs42.rd
    refine ⟨_, rfl, (hS.partD (.refl _) 2 rfl (.refl _)), ?_⟩
    intro a hA
    refine any_many (rs := [3, 4]) (by kernel_rfl) (by simp) ⟨?_, ?_, trivial⟩
    · refine op_call hA 3 rfl rfl rfl rfl (enters_func  rfl rfl (fun w => by kernel_rfl)) (rsumR_any ⟨(hS.rd 5 rfl), ha1.nil, ha1.cap⟩ ⟨(hS.rd 4 rfl), ha2.nil, ha2.cap⟩ ⟨(hS.rd 1 rfl), hs41.nil, hs41.cap⟩ ⟨(hS.rd 0 rfl), hs42.nil, hs42.cap⟩ (LR_u.mono (by decide)) (LR_m.mono (by decide)) h0) ?_
      rintro _ w49 ⟨f45_1, f45_c1, f45_2, f45_c2, rfl, hs46, hs47, hb48⟩
      replace hS := hS.call hb48
      replace hS := hS.addR hs46.rd
      replace hS := hS.addR hs47.rd
      refine ⟨_, rfl, (hS.partD (.refl _) 4 rfl (.refl _)), ?_⟩
      intro a hA
      refine any_one (by kernel_rfl) (op_new (vs := [.bool false, .slice none 0 0, .slice none 0 0]) (t := 24) hA hS 4 rfl rfl rfl rfl (fun g => .pointer (some ⟨g, 0, none⟩)) (does_alloc (z := .agg #[.bool false, .slice none 0 0, .slice none 0 0]) (by kernel_rfl) rfl) rfl ?_)
      intro g50 w51 hS
      refine ⟨(hS.partD (.cons _ (.cons_cons _ (.cons_cons _ .slnil))) 4 rfl (.refl _)), ?_⟩
      intro a hA
      refine any_one (by kernel_rfl) (op_store (us := [.bool ((rb d.num)), .slice f45_1 ((words d.num.natAbs).length) f45_c1, .slice f45_2 ((words d.den).length) f45_c2]) hA hS 5 rfl rfl rfl (sets_store (cs := [.bool ((rb d.num)), .slice f45_1 ((words d.num.natAbs).length) f45_c1, .slice f45_2 ((words d.den).length) f45_c2]) rfl rfl rfl (by kernel_rfl) hS 0 rfl rfl rfl) 0 rfl rfl rfl rfl ?_)
      intro w52 hS
      refine ⟨(hS.partD (.cons _ (.cons_cons _ (.cons_cons _ .slnil))) 4 rfl (.refl _)), ?_⟩
      refine any_end (by kernel_rfl) ?_
      refine hJ29 _ _ ⟨g50, f45_1, f45_c1, f45_2, f45_c2, hA.keep _ ⟨rfl, rfl, rfl, rfl, trivial⟩, ((hS.pickR [(f45_2, words d.den), (f45_1, words d.num.natAbs), (u2, words v.den), (u1, words v.num.natAbs), (a2, words u.den), (a1, words u.num.natAbs)] ⟨⟨0, rfl⟩, ⟨⟨1, rfl⟩, ⟨⟨4, rfl⟩, ⟨⟨5, rfl⟩, ⟨⟨6, rfl⟩, ⟨⟨7, rfl⟩, trivial⟩⟩⟩⟩⟩⟩).pickL [(g50, [.bool ((rb d.num)), .slice f45_1 ((words d.num.natAbs).length) f45_c1, .slice f45_2 ((words d.den).length) f45_c2]), (g4, [.bool ((rb v.num)), .slice u1 ((words v.num.natAbs).length) uc1, .slice u2 ((words v.den).length) uc2]), (g2, [.bool ((rb u.num)), .slice a1 ((words u.num.natAbs).length) ac1, .slice a2 ((words u.den).length) ac2])] [0, 1, 2] rfl (by decide)), hs47.nil, hs47.cap, hs46.nil, hs46.cap⟩
    · refine op_new (vs := [.bool false, .slice none 0 0, .slice none 0 0]) (t := 24) hA hS 4 rfl rfl rfl rfl (fun g => .pointer (some ⟨g, 0, none⟩)) (does_alloc (z := .agg #[.bool false, .slice none 0 0, .slice none 0 0]) (by kernel_rfl) rfl) rfl ?_
      intro g53 w54 hS
      refine ⟨(hS.partD (.cons _ (.cons_cons _ (.cons_cons _ .slnil))) 2 rfl (.refl _)), ?_⟩
      intro a hA
      refine any_one (by kernel_rfl) (op_call hA 3 rfl rfl rfl rfl (enters_func  rfl rfl (fun w => by kernel_rfl)) (rsumR_any ⟨(hS.rd 5 rfl), ha1.nil, ha1.cap⟩ ⟨(hS.rd 4 rfl), ha2.nil, ha2.cap⟩ ⟨(hS.rd 1 rfl), hs41.nil, hs41.cap⟩ ⟨(hS.rd 0 rfl), hs42.nil, hs42.cap⟩ (LR_u.mono (by decide)) (LR_m.mono (by decide)) h0) ?_)
      rintro _ w59 ⟨f55_1, f55_c1, f55_2, f55_c2, rfl, hs56, hs57, hb58⟩
      replace hS := hS.call hb58
      replace hS := hS.addR hs56.rd
      replace hS := hS.addR hs57.rd
      refine ⟨_, rfl, (hS.partD (.cons _ (.cons_cons _ (.cons_cons _ .slnil))) 4 rfl (.refl _)), ?_⟩
      intro a hA
      refine any_one (by kernel_rfl) (op_store (us := [.bool ((rb d.num)), .slice f55_1 ((words d.num.natAbs).length) f55_c1, .slice f55_2 ((words d.den).length) f55_c2]) hA hS 5 rfl rfl rfl (sets_store (cs := [.bool ((rb d.num)), .slice f55_1 ((words d.num.natAbs).length) f55_c1, .slice f55_2 ((words d.den).length) f55_c2]) rfl rfl rfl (by kernel_rfl) hS 0 rfl rfl rfl) 0 rfl rfl rfl rfl ?_)
      intro w60 hS
      refine ⟨(hS.partD (.cons _ (.cons_cons _ (.cons_cons _ .slnil))) 4 rfl (.refl _)), ?_⟩
      refine any_end (by kernel_rfl) ?_
      refine hJ29 _ _ ⟨g53, f55_1, f55_c1, f55_2, f55_c2, hA.keep _ ⟨rfl, rfl, rfl, rfl, trivial⟩, ((hS.pickR [(f55_2, words d.den), (f55_1, words d.num.natAbs), (u2, words v.den), (u1, words v.num.natAbs), (a2, words u.den), (a1, words u.num.natAbs)] ⟨⟨0, rfl⟩, ⟨⟨1, rfl⟩, ⟨⟨4, rfl⟩, ⟨⟨5, rfl⟩, ⟨⟨6, rfl⟩, ⟨⟨7, rfl⟩, trivial⟩⟩⟩⟩⟩⟩).pickL [(g53, [.bool ((rb d.num)), .slice f55_1 ((words d.num.natAbs).length) f55_c1, .slice f55_2 ((words d.den).length) f55_c2]), (g4, [.bool ((rb v.num)), .slice u1 ((words v.num.natAbs).length) uc1, .slice u2 ((words v.den).length) uc2]), (g2, [.bool ((rb u.num)), .slice a1 ((words u.num.natAbs).length) ac1, .slice a2 ((words u.den).length) ac2])] [0, 1, 2] rfl (by decide)), hs57.nil, hs57.cap, hs56.nil, hs56.cap⟩
  · refine op_new (vs := [.bool false, .slice none 0 0, .slice none 0 0]) (t := 24) hA hS 4 rfl rfl rfl rfl (fun g => .pointer (some ⟨g, 0, none⟩)) (does_alloc (z := .agg #[.bool false, .slice none 0 0, .slice none 0 0]) (by kernel_rfl) rfl) rfl ?_
    intro g61 w62 hS
    refine ⟨(hS.partD (.cons _ (.cons_cons _ (.cons_cons _ .slnil))) 0 rfl (.refl _)), ?_⟩
    intro a hA
    refine any_one (by kernel_rfl) (op_call hA 2 rfl rfl rfl rfl (enters_func  rfl rfl (fun w => by kernel_rfl)) (rminusR_any ⟨(hS.rd 1 rfl), hu1.nil, hu1.cap⟩ ⟨(hS.rd 0 rfl), hu2.nil, hu2.cap⟩ m1) ?_)
    rintro _ w67 ⟨f63_1, f63_c1, f63_2, f63_c2, rfl, hs64, hs65, hb66⟩
    replace hS := hS.call hb66
    replace hS := hS.addR hs64.rd
    replace hS := hS.addR hs65.rd
    refine ⟨_, rfl, (hS.partD (.cons _ (.cons_cons _ (.cons_cons _ .slnil))) 2 rfl (.refl _)), ?_⟩
    intro a hA
    refine any_one (by kernel_rfl) (op_call hA 3 rfl rfl rfl rfl (enters_func  rfl rfl (fun w => by kernel_rfl)) (rsumR_any ⟨(hS.rd 5 rfl), ha1.nil, ha1.cap⟩ ⟨(hS.rd 4 rfl), ha2.nil, ha2.cap⟩ ⟨(hS.rd 1 rfl), hs64.nil, hs64.cap⟩ ⟨(hS.rd 0 rfl), hs65.nil, hs65.cap⟩ (LR_u.mono (by decide)) (LR_m.mono (by decide)) h0) ?_)
    rintro _ w72 ⟨f68_1, f68_c1, f68_2, f68_c2, rfl, hs69, hs70, hb71⟩
    replace hS := hS.call hb71
    replace hS := hS.addR hs69.rd
    replace hS := hS.addR hs70.rd
    refine ⟨_, rfl, (hS.partD (.cons _ (.cons_cons _ (.cons_cons _ .slnil))) 4 rfl (.refl _)), ?_⟩
    intro a hA
    refine any_one (by kernel_rfl) (op_store (us := [.bool ((rb d.num)), .slice f68_1 ((words d.num.natAbs).length) f68_c1, .slice f68_2 ((words d.den).length) f68_c2]) hA hS 5 rfl rfl rfl (sets_store (cs := [.bool ((rb d.num)), .slice f68_1 ((words d.num.natAbs).length) f68_c1, .slice f68_2 ((words d.den).length) f68_c2]) rfl rfl rfl (by kernel_rfl) hS 0 rfl rfl rfl) 0 rfl rfl rfl rfl ?_)
    intro w73 hS
    refine ⟨(hS.partD (.cons _ (.cons_cons _ (.cons_cons _ .slnil))) 4 rfl (.refl _)), ?_⟩
    refine any_end (by kernel_rfl) ?_
    refine hJ29 _ _ ⟨g61, f68_1, f68_c1, f68_2, f68_c2, hA.keep _ ⟨rfl, rfl, rfl, rfl, trivial⟩, ((hS.pickR [(f68_2, words d.den), (f68_1, words d.num.natAbs), (u2, words v.den), (u1, words v.num.natAbs), (a2, words u.den), (a1, words u.num.natAbs)] ⟨⟨0, rfl⟩, ⟨⟨1, rfl⟩, ⟨⟨4, rfl⟩, ⟨⟨5, rfl⟩, ⟨⟨6, rfl⟩, ⟨⟨7, rfl⟩, trivial⟩⟩⟩⟩⟩⟩).pickL [(g61, [.bool ((rb d.num)), .slice f68_1 ((words d.num.natAbs).length) f68_c1, .slice f68_2 ((words d.den).length) f68_c2]), (g4, [.bool ((rb v.num)), .slice u1 ((words v.num.natAbs).length) uc1, .slice u2 ((words v.den).length) uc2]), (g2, [.bool ((rb u.num)), .slice a1 ((words u.num.natAbs).length) ac1, .slice a2 ((words u.den).length) ac2])] [0, 1, 2] rfl (by decide)), hs70.nil, hs70.cap, hs69.nil, hs69.cap⟩
end Go.Proofs.YthlkbnhbmfmchaaGreat
namespace Go.Proofs.YthlkbnhbmfmchaaGreat
open Go.RowKit
set_option linter.unusedVariables false
set_option linter.unusedSimpArgs false
set_option maxRecDepth 100000
theorem RfD_fld_26_0 : FieldAt Tryz.prog 26 0 0 := ⟨_, _, Tryz.underlying26, rfl, rfl, by kernel_rfl⟩
theorem RfD_isS_24 : IsS Tryz.prog 24 3 := ⟨⟨_, Tryz.underlying24⟩, by kernel_rfl⟩
theorem RfD_isS_26 : IsS Tryz.prog 26 6 := ⟨⟨_, Tryz.underlying26⟩, by kernel_rfl⟩
theorem rcmpE0_any {w : World} {p q : Q6} {a1 a2 a3 a4 : Option Addr} {ac1 ac2 ac3 ac4 : Nat} (ha : Nm w p a1 ac1 a2 ac2 a3 ac3 a4 ac4) (hl : LenQ p) {u1 u2 u3 u4 : Option Addr} {uc1 uc2 uc3 uc4 : Nat} (hb : Nm w q u1 uc1 u2 uc2 u3 uc3 u4 uc4) (hm : LenQ q) (h1 : soundQ p = false) : Calls Tryz.prog 13 #[numV p a1 ac1 a2 ac2 a3 ac3 a4 ac4, numV q u1 uc1 u2 uc2 u3 uc3 u4 uc4] w fun e w' => e = .returned (.tuple #[.int .i64 0, .int .i64 2]) ∧ Below w.heap.size w w' := by
  have hS : St w w [] [(u4, q.q2), (u3, q.t2), (u2, q.q1), (u1, q.t1), (a4, p.q2), (a3, p.t2), (a2, p.q1), (a1, p.t1)] [] := ((((((((St.start w).addR ha.s1.rd).addR ha.s2.rd).addR ha.s3.rd).addR ha.s4.rd).addR hb.s1.rd).addR hb.s2.rd).addR hb.s3.rd).addR hb.s4.rd
  refine walk_of (l := [(0, .agg #[.bool p.b1, .slice a1 p.t1.length ac1, .slice a2 p.q1.length ac2, .bool p.b2, .slice a3 p.t2.length ac3, .slice a4 p.q2.length ac4]), (1, .agg #[.bool q.b1, .slice u1 q.t1.length uc1, .slice u2 q.q1.length uc2, .bool q.b2, .slice u3 q.t2.length uc3, .slice u4 q.q2.length uc4])]) Tryz.func13 rfl Tryz.ntmps13 rfl rfl ?_
  intro Q hret hnorm hP a hA
  refine wp_seq_k (fun K1 hK1 => ?_)
  refine wp_region_lit ?_
  refine seq_new (vs := [.bool p.b1, .slice a1 p.t1.length ac1, .slice a2 p.q1.length ac2, .bool p.b2, .slice a3 p.t2.length ac3, .slice a4 p.q2.length ac4]) (t := 26) hA hS rfl rfl rfl (fun g => .pointer (some ⟨g, 0, none⟩)) (does_box rfl rfl) rfl ?_
  intro g2 w3 hS a hA
  refine seq_new (vs := [.bool q.b1, .slice u1 q.t1.length uc1, .slice u2 q.q1.length uc2, .bool q.b2, .slice u3 q.t2.length uc3, .slice u4 q.q2.length uc4]) (t := 26) hA hS rfl rfl rfl (fun g => .pointer (some ⟨g, 0, none⟩)) (does_box rfl rfl) rfl ?_
  intro g4 w5 hS a hA
  refine seq_do hA rfl rfl rfl (does_assign rfl) ?_
  intro a hA
  refine seq_do hA rfl rfl rfl (does_assign rfl) ?_
  intro a hA
  refine seq_end ?_
  refine hK1 _ _ ?_
  refine wp_seq_k (fun K6 hK6 => ?_)
  refine wp_seq_k (fun K7 hK7 => ?_)
  refine wp_region_lit ?_
  refine seq_do (v := .agg #[.bool p.b1, .slice a1 p.t1.length ac1, .slice a2 p.q1.length ac2, .bool p.b2, .slice a3 p.t2.length ac3, .slice a4 p.q2.length ac4]) hA rfl rfl rfl (does_loadS hS RfD_isS_26 rfl 1 rfl (cs := [.bool p.b1, .slice a1 p.t1.length ac1, .slice a2 p.q1.length ac2, .bool p.b2, .slice a3 p.t2.length ac3, .slice a4 p.q2.length ac4]) rfl rfl) ?_
  intro a hA
  refine seq_call hA rfl rfl rfl (enters_func  rfl rfl (fun w => by kernel_rfl)) (rsoundQ_any (show Nm _ p a1 ac1 a2 ac2 a3 ac3 a4 ac4 from ⟨⟨(hS.rd 7 rfl), ha.s1.nil, ha.s1.cap⟩, ⟨(hS.rd 6 rfl), ha.s2.nil, ha.s2.cap⟩, ⟨(hS.rd 5 rfl), ha.s3.nil, ha.s3.cap⟩, ⟨(hS.rd 4 rfl), ha.s4.nil, ha.s4.cap⟩⟩) hl h1) ?_
  rintro _ w9 ⟨rfl, hb8⟩
  replace hS := hS.call hb8
  refine ⟨_, rfl, ?_⟩
  intro a hA
  refine seq_do (v := .bool true) hA rfl rfl rfl (does_un rfl un_not) ?_
  intro a hA
  refine seq_do hA rfl rfl rfl (does_move rfl) ?_
  intro a hA
  refine seq_skip hA rfl rfl rfl ?_
  intro a hA
  refine seq_skip hA rfl rfl rfl ?_
  intro a hA
  refine seq_skip hA rfl rfl rfl ?_
  intro a hA
  refine seq_do (v := .bool true) hA rfl rfl rfl (does_pick rfl rfl rfl rfl) ?_
  intro a hA
  refine seq_end ?_
  refine hK7 _ _ ?_
  refine wp_cond_true (hA.ev rfl) ?_
  refine wp_seq_k (fun K10 hK10 => ?_)
  refine wp_region_lit ?_
  refine seq_do hA rfl rfl rfl (does_assign rfl) ?_
  intro a hA
  refine seq_do hA rfl rfl rfl (does_assign rfl) ?_
  intro a hA
  refine seq_end ?_
  refine hK10 _ _ ?_
  refine wp_ret ?_
  refine hret _ _ ?_
  refine ends (v := .tuple #[.int .i64 0, .int .i64 2]) hA rfl (.cons (res_tmp rfl) (.cons (res_tmp rfl) .nil)) rfl ?_
  exact ⟨rfl, hS.bel⟩
theorem rcmpE1_any {w : World} {p q : Q6} {a1 a2 a3 a4 : Option Addr} {ac1 ac2 ac3 ac4 : Nat} (ha : Nm w p a1 ac1 a2 ac2 a3 ac3 a4 ac4) (hl : LenQ p) {u1 u2 u3 u4 : Option Addr} {uc1 uc2 uc3 uc4 : Nat} (hb : Nm w q u1 uc1 u2 uc2 u3 uc3 u4 uc4) (hm : LenQ q) (h1 : soundQ p = true) (h2 : soundQ q = false) : Calls Tryz.prog 13 #[numV p a1 ac1 a2 ac2 a3 ac3 a4 ac4, numV q u1 uc1 u2 uc2 u3 uc3 u4 uc4] w fun e w' => e = .returned (.tuple #[.int .i64 0, .int .i64 2]) ∧ Below w.heap.size w w' := by
  have hS : St w w [] [(u4, q.q2), (u3, q.t2), (u2, q.q1), (u1, q.t1), (a4, p.q2), (a3, p.t2), (a2, p.q1), (a1, p.t1)] [] := ((((((((St.start w).addR ha.s1.rd).addR ha.s2.rd).addR ha.s3.rd).addR ha.s4.rd).addR hb.s1.rd).addR hb.s2.rd).addR hb.s3.rd).addR hb.s4.rd
  refine walk_of (l := [(0, .agg #[.bool p.b1, .slice a1 p.t1.length ac1, .slice a2 p.q1.length ac2, .bool p.b2, .slice a3 p.t2.length ac3, .slice a4 p.q2.length ac4]), (1, .agg #[.bool q.b1, .slice u1 q.t1.length uc1, .slice u2 q.q1.length uc2, .bool q.b2, .slice u3 q.t2.length uc3, .slice u4 q.q2.length uc4])]) Tryz.func13 rfl Tryz.ntmps13 rfl rfl ?_
  intro Q hret hnorm hP a hA
  refine wp_seq_k (fun K1 hK1 => ?_)
  refine wp_region_lit ?_
  refine seq_new (vs := [.bool p.b1, .slice a1 p.t1.length ac1, .slice a2 p.q1.length ac2, .bool p.b2, .slice a3 p.t2.length ac3, .slice a4 p.q2.length ac4]) (t := 26) hA hS rfl rfl rfl (fun g => .pointer (some ⟨g, 0, none⟩)) (does_box rfl rfl) rfl ?_
  intro g2 w3 hS a hA
  refine seq_new (vs := [.bool q.b1, .slice u1 q.t1.length uc1, .slice u2 q.q1.length uc2, .bool q.b2, .slice u3 q.t2.length uc3, .slice u4 q.q2.length uc4]) (t := 26) hA hS rfl rfl rfl (fun g => .pointer (some ⟨g, 0, none⟩)) (does_box rfl rfl) rfl ?_
  intro g4 w5 hS a hA
  refine seq_do hA rfl rfl rfl (does_assign rfl) ?_
  intro a hA
  refine seq_do hA rfl rfl rfl (does_assign rfl) ?_
  intro a hA
  refine seq_end ?_
  refine hK1 _ _ ?_
  refine wp_seq_k (fun K6 hK6 => ?_)
  refine wp_seq_k (fun K7 hK7 => ?_)
  refine wp_region_lit ?_
  refine seq_do (v := .agg #[.bool p.b1, .slice a1 p.t1.length ac1, .slice a2 p.q1.length ac2, .bool p.b2, .slice a3 p.t2.length ac3, .slice a4 p.q2.length ac4]) hA rfl rfl rfl (does_loadS hS RfD_isS_26 rfl 1 rfl (cs := [.bool p.b1, .slice a1 p.t1.length ac1, .slice a2 p.q1.length ac2, .bool p.b2, .slice a3 p.t2.length ac3, .slice a4 p.q2.length ac4]) rfl rfl) ?_
  intro a hA
  refine seq_call hA rfl rfl rfl (enters_func  rfl rfl (fun w => by kernel_rfl)) (rsoundQ_any (show Nm _ p a1 ac1 a2 ac2 a3 ac3 a4 ac4 from ⟨⟨(hS.rd 7 rfl), ha.s1.nil, ha.s1.cap⟩, ⟨(hS.rd 6 rfl), ha.s2.nil, ha.s2.cap⟩, ⟨(hS.rd 5 rfl), ha.s3.nil, ha.s3.cap⟩, ⟨(hS.rd 4 rfl), ha.s4.nil, ha.s4.cap⟩⟩) hl h1) ?_
  rintro _ w9 ⟨rfl, hb8⟩
  replace hS := hS.call hb8
  refine ⟨_, rfl, ?_⟩
  intro a hA
  refine seq_do (v := .bool false) hA rfl rfl rfl (does_un rfl un_not) ?_
  intro a hA
  refine seq_do hA rfl rfl rfl (does_move rfl) ?_
  intro a hA
  refine seq_do (v := .agg #[.bool q.b1, .slice u1 q.t1.length uc1, .slice u2 q.q1.length uc2, .bool q.b2, .slice u3 q.t2.length uc3, .slice u4 q.q2.length uc4]) hA rfl rfl rfl (does_loadS hS RfD_isS_26 rfl 0 rfl (cs := [.bool q.b1, .slice u1 q.t1.length uc1, .slice u2 q.q1.length uc2, .bool q.b2, .slice u3 q.t2.length uc3, .slice u4 q.q2.length uc4]) rfl rfl) ?_
  intro a hA
  refine seq_call hA rfl rfl rfl (enters_func  rfl rfl (fun w => by kernel_rfl)) (rsoundQ_any (show Nm _ q u1 uc1 u2 uc2 u3 uc3 u4 uc4 from ⟨⟨(hS.rd 3 rfl), hb.s1.nil, hb.s1.cap⟩, ⟨(hS.rd 2 rfl), hb.s2.nil, hb.s2.cap⟩, ⟨(hS.rd 1 rfl), hb.s3.nil, hb.s3.cap⟩, ⟨(hS.rd 0 rfl), hb.s4.nil, hb.s4.cap⟩⟩) hm h2) ?_
  rintro _ w11 ⟨rfl, hb10⟩
  replace hS := hS.call hb10
  refine ⟨_, rfl, ?_⟩
  intro a hA
  refine seq_do (v := .bool true) hA rfl rfl rfl (does_un rfl un_not) ?_
  intro a hA
  refine seq_do (v := .bool true) hA rfl rfl rfl (does_pick rfl rfl rfl rfl) ?_
  intro a hA
  refine seq_end ?_
  refine hK7 _ _ ?_
  refine wp_cond_true (hA.ev rfl) ?_
  refine wp_seq_k (fun K12 hK12 => ?_)
  refine wp_region_lit ?_
  refine seq_do hA rfl rfl rfl (does_assign rfl) ?_
  intro a hA
  refine seq_do hA rfl rfl rfl (does_assign rfl) ?_
  intro a hA
  refine seq_end ?_
  refine hK12 _ _ ?_
  refine wp_ret ?_
  refine hret _ _ ?_
  refine ends (v := .tuple #[.int .i64 0, .int .i64 2]) hA rfl (.cons (res_tmp rfl) (.cons (res_tmp rfl) .nil)) rfl ?_
  exact ⟨rfl, hS.bel⟩
theorem rcmpE2_any {w : World} {p q : Q6} {a1 a2 a3 a4 : Option Addr} {ac1 ac2 ac3 ac4 : Nat} (ha : Nm w p a1 ac1 a2 ac2 a3 ac3 a4 ac4) (hl : LenQ p) {u1 u2 u3 u4 : Option Addr} {uc1 uc2 uc3 uc4 : Nat} (hb : Nm w q u1 uc1 u2 uc2 u3 uc3 u4 uc4) (hm : LenQ q) (h1 : soundQ p = true) (h2 : soundQ q = true) (h3 : decide (p.t2.length = 0) = false) : Calls Tryz.prog 13 #[numV p a1 ac1 a2 ac2 a3 ac3 a4 ac4, numV q u1 uc1 u2 uc2 u3 uc3 u4 uc4] w fun e w' => e = .returned (.tuple #[.int .i64 0, .int .i64 10]) ∧ Below w.heap.size w w' := by
  have hS : St w w [] [(u4, q.q2), (u3, q.t2), (u2, q.q1), (u1, q.t1), (a4, p.q2), (a3, p.t2), (a2, p.q1), (a1, p.t1)] [] := ((((((((St.start w).addR ha.s1.rd).addR ha.s2.rd).addR ha.s3.rd).addR ha.s4.rd).addR hb.s1.rd).addR hb.s2.rd).addR hb.s3.rd).addR hb.s4.rd
  refine walk_of (l := [(0, .agg #[.bool p.b1, .slice a1 p.t1.length ac1, .slice a2 p.q1.length ac2, .bool p.b2, .slice a3 p.t2.length ac3, .slice a4 p.q2.length ac4]), (1, .agg #[.bool q.b1, .slice u1 q.t1.length uc1, .slice u2 q.q1.length uc2, .bool q.b2, .slice u3 q.t2.length uc3, .slice u4 q.q2.length uc4])]) Tryz.func13 rfl Tryz.ntmps13 rfl rfl ?_
  intro Q hret hnorm hP a hA
  refine wp_seq_k (fun K1 hK1 => ?_)
  refine wp_region_lit ?_
  refine seq_new (vs := [.bool p.b1, .slice a1 p.t1.length ac1, .slice a2 p.q1.length ac2, .bool p.b2, .slice a3 p.t2.length ac3, .slice a4 p.q2.length ac4]) (t := 26) hA hS rfl rfl rfl (fun g => .pointer (some ⟨g, 0, none⟩)) (does_box rfl rfl) rfl ?_
  intro g2 w3 hS a hA
  refine seq_new (vs := [.bool q.b1, .slice u1 q.t1.length uc1, .slice u2 q.q1.length uc2, .bool q.b2, .slice u3 q.t2.length uc3, .slice u4 q.q2.length uc4]) (t := 26) hA hS rfl rfl rfl (fun g => .pointer (some ⟨g, 0, none⟩)) (does_box rfl rfl) rfl ?_
  intro g4 w5 hS a hA
  refine seq_do hA rfl rfl rfl (does_assign rfl) ?_
  intro a hA
  refine seq_do hA rfl rfl rfl (does_assign rfl) ?_
  intro a hA
  refine seq_end ?_
  refine hK1 _ _ ?_
  refine wp_seq_k (fun K6 hK6 => ?_)
  refine wp_seq_k (fun K7 hK7 => ?_)
  refine wp_region_lit ?_
  refine seq_do (v := .agg #[.bool p.b1, .slice a1 p.t1.length ac1, .slice a2 p.q1.length ac2, .bool p.b2, .slice a3 p.t2.length ac3, .slice a4 p.q2.length ac4]) hA rfl rfl rfl (does_loadS hS RfD_isS_26 rfl 1 rfl (cs := [.bool p.b1, .slice a1 p.t1.length ac1, .slice a2 p.q1.length ac2, .bool p.b2, .slice a3 p.t2.length ac3, .slice a4 p.q2.length ac4]) rfl rfl) ?_
  intro a hA
  refine seq_call hA rfl rfl rfl (enters_func  rfl rfl (fun w => by kernel_rfl)) (rsoundQ_any (show Nm _ p a1 ac1 a2 ac2 a3 ac3 a4 ac4 from ⟨⟨(hS.rd 7 rfl), ha.s1.nil, ha.s1.cap⟩, ⟨(hS.rd 6 rfl), ha.s2.nil, ha.s2.cap⟩, ⟨(hS.rd 5 rfl), ha.s3.nil, ha.s3.cap⟩, ⟨(hS.rd 4 rfl), ha.s4.nil, ha.s4.cap⟩⟩) hl h1) ?_
  rintro _ w9 ⟨rfl, hb8⟩
  replace hS := hS.call hb8
  refine ⟨_, rfl, ?_⟩
  intro a hA
  refine seq_do (v := .bool false) hA rfl rfl rfl (does_un rfl un_not) ?_
  intro a hA
  refine seq_do hA rfl rfl rfl (does_move rfl) ?_
  intro a hA
  refine seq_do (v := .agg #[.bool q.b1, .slice u1 q.t1.length uc1, .slice u2 q.q1.length uc2, .bool q.b2, .slice u3 q.t2.length uc3, .slice u4 q.q2.length uc4]) hA rfl rfl rfl (does_loadS hS RfD_isS_26 rfl 0 rfl (cs := [.bool q.b1, .slice u1 q.t1.length uc1, .slice u2 q.q1.length uc2, .bool q.b2, .slice u3 q.t2.length uc3, .slice u4 q.q2.length uc4]) rfl rfl) ?_
  intro a hA
  refine seq_call hA rfl rfl rfl (enters_func  rfl rfl (fun w => by kernel_rfl)) (rsoundQ_any (show Nm _ q u1 uc1 u2 uc2 u3 uc3 u4 uc4 from ⟨⟨(hS.rd 3 rfl), hb.s1.nil, hb.s1.cap⟩, ⟨(hS.rd 2 rfl), hb.s2.nil, hb.s2.cap⟩, ⟨(hS.rd 1 rfl), hb.s3.nil, hb.s3.cap⟩, ⟨(hS.rd 0 rfl), hb.s4.nil, hb.s4.cap⟩⟩) hm h2) ?_
  rintro _ w11 ⟨rfl, hb10⟩
  replace hS := hS.call hb10
  refine ⟨_, rfl, ?_⟩
  intro a hA
  refine seq_do (v := .bool false) hA rfl rfl rfl (does_un rfl un_not) ?_
  intro a hA
  refine seq_do (v := .bool false) hA rfl rfl rfl (does_pick rfl rfl rfl rfl) ?_
  intro a hA
  refine seq_end ?_
  refine hK7 _ _ ?_
  refine wp_cond_false (hA.ev rfl) ?_
  refine wp_skip ?_
  refine hK6 _ _ ?_
  refine wp_seq_k (fun K12 hK12 => ?_)
  refine wp_seq_k (fun K13 hK13 => ?_)
  refine wp_region_lit ?_
  refine seq_do (v := .agg #[.bool p.b1, .slice a1 p.t1.length ac1, .slice a2 p.q1.length ac2, .bool p.b2, .slice a3 p.t2.length ac3, .slice a4 p.q2.length ac4]) hA rfl rfl rfl (does_loadS hS RfD_isS_26 rfl 1 rfl (cs := [.bool p.b1, .slice a1 p.t1.length ac1, .slice a2 p.q1.length ac2, .bool p.b2, .slice a3 p.t2.length ac3, .slice a4 p.q2.length ac4]) rfl rfl) ?_
  intro a hA
  refine seq_call hA rfl rfl rfl (enters_func  rfl rfl (fun w => by kernel_rfl)) (rrealQ_any (show Nm _ p a1 ac1 a2 ac2 a3 ac3 a4 ac4 from ⟨⟨(hS.rd 7 rfl), ha.s1.nil, ha.s1.cap⟩, ⟨(hS.rd 6 rfl), ha.s2.nil, ha.s2.cap⟩, ⟨(hS.rd 5 rfl), ha.s3.nil, ha.s3.cap⟩, ⟨(hS.rd 4 rfl), ha.s4.nil, ha.s4.cap⟩⟩) hl h3) ?_
  rintro _ w15 ⟨rfl, hb14⟩
  replace hS := hS.call hb14
  refine ⟨_, rfl, ?_⟩
  intro a hA
  refine seq_do (v := .bool true) hA rfl rfl rfl (does_un rfl un_not) ?_
  intro a hA
  refine seq_do hA rfl rfl rfl (does_move rfl) ?_
  intro a hA
  refine seq_skip hA rfl rfl rfl ?_
  intro a hA
  refine seq_skip hA rfl rfl rfl ?_
  intro a hA
  refine seq_skip hA rfl rfl rfl ?_
  intro a hA
  refine seq_do (v := .bool true) hA rfl rfl rfl (does_pick rfl rfl rfl rfl) ?_
  intro a hA
  refine seq_end ?_
  refine hK13 _ _ ?_
  refine wp_cond_true (hA.ev rfl) ?_
  refine wp_seq_k (fun K16 hK16 => ?_)
  refine wp_region_lit ?_
  refine seq_do hA rfl rfl rfl (does_assign rfl) ?_
  intro a hA
  refine seq_do hA rfl rfl rfl (does_assign rfl) ?_
  intro a hA
  refine seq_end ?_
  refine hK16 _ _ ?_
  refine wp_ret ?_
  refine hret _ _ ?_
  refine ends (v := .tuple #[.int .i64 0, .int .i64 10]) hA rfl (.cons (res_tmp rfl) (.cons (res_tmp rfl) .nil)) rfl ?_
  exact ⟨rfl, hS.bel⟩
theorem rcmpE3_any {w : World} {p q : Q6} {a1 a2 a3 a4 : Option Addr} {ac1 ac2 ac3 ac4 : Nat} (ha : Nm w p a1 ac1 a2 ac2 a3 ac3 a4 ac4) (hl : LenQ p) {u1 u2 u3 u4 : Option Addr} {uc1 uc2 uc3 uc4 : Nat} (hb : Nm w q u1 uc1 u2 uc2 u3 uc3 u4 uc4) (hm : LenQ q) (h1 : soundQ p = true) (h2 : soundQ q = true) (h3 : decide (p.t2.length = 0) = true) (h4 : decide (q.t2.length = 0) = false) : Calls Tryz.prog 13 #[numV p a1 ac1 a2 ac2 a3 ac3 a4 ac4, numV q u1 uc1 u2 uc2 u3 uc3 u4 uc4] w fun e w' => e = .returned (.tuple #[.int .i64 0, .int .i64 10]) ∧ Below w.heap.size w w' := by
  have hS : St w w [] [(u4, q.q2), (u3, q.t2), (u2, q.q1), (u1, q.t1), (a4, p.q2), (a3, p.t2), (a2, p.q1), (a1, p.t1)] [] := ((((((((St.start w).addR ha.s1.rd).addR ha.s2.rd).addR ha.s3.rd).addR ha.s4.rd).addR hb.s1.rd).addR hb.s2.rd).addR hb.s3.rd).addR hb.s4.rd
  refine walk_of (l := [(0, .agg #[.bool p.b1, .slice a1 p.t1.length ac1, .slice a2 p.q1.length ac2, .bool p.b2, .slice a3 p.t2.length ac3, .slice a4 p.q2.length ac4]), (1, .agg #[.bool q.b1, .slice u1 q.t1.length uc1, .slice u2 q.q1.length uc2, .bool q.b2, .slice u3 q.t2.length uc3, .slice u4 q.q2.length uc4])]) Tryz.func13 rfl Tryz.ntmps13 rfl rfl ?_
  intro Q hret hnorm hP a hA
  refine wp_seq_k (fun K1 hK1 => ?_)
  refine wp_region_lit ?_
  refine seq_new (vs := [.bool p.b1, .slice a1 p.t1.length ac1, .slice a2 p.q1.length ac2, .bool p.b2, .slice a3 p.t2.length ac3, .slice a4 p.q2.length ac4]) (t := 26) hA hS rfl rfl rfl (fun g => .pointer (some ⟨g, 0, none⟩)) (does_box rfl rfl) rfl ?_
  intro g2 w3 hS a hA
  refine seq_new (vs := [.bool q.b1, .slice u1 q.t1.length uc1, .slice u2 q.q1.length uc2, .bool q.b2, .slice u3 q.t2.length uc3, .slice u4 q.q2.length uc4]) (t := 26) hA hS rfl rfl rfl (fun g => .pointer (some ⟨g, 0, none⟩)) (does_box rfl rfl) rfl ?_
  intro g4 w5 hS a hA
  refine seq_do hA rfl rfl rfl (does_assign rfl) ?_
  intro a hA
  refine seq_do hA rfl rfl rfl (does_assign rfl) ?_
  intro a hA
  refine seq_end ?_
  refine hK1 _ _ ?_
  refine wp_seq_k (fun K6 hK6 => ?_)
  refine wp_seq_k (fun K7 hK7 => ?_)
  refine wp_region_lit ?_
  refine seq_do (v := .agg #[.bool p.b1, .slice a1 p.t1.length ac1, .slice a2 p.q1.length ac2, .bool p.b2, .slice a3 p.t2.length ac3, .slice a4 p.q2.length ac4]) hA rfl rfl rfl (does_loadS hS RfD_isS_26 rfl 1 rfl (cs := [.bool p.b1, .slice a1 p.t1.length ac1, .slice a2 p.q1.length ac2, .bool p.b2, .slice a3 p.t2.length ac3, .slice a4 p.q2.length ac4]) rfl rfl) ?_
  intro a hA
  refine seq_call hA rfl rfl rfl (enters_func  rfl rfl (fun w => by kernel_rfl)) (rsoundQ_any (show Nm _ p a1 ac1 a2 ac2 a3 ac3 a4 ac4 from ⟨⟨(hS.rd 7 rfl), ha.s1.nil, ha.s1.cap⟩, ⟨(hS.rd 6 rfl), ha.s2.nil, ha.s2.cap⟩, ⟨(hS.rd 5 rfl), ha.s3.nil, ha.s3.cap⟩, ⟨(hS.rd 4 rfl), ha.s4.nil, ha.s4.cap⟩⟩) hl h1) ?_
  rintro _ w9 ⟨rfl, hb8⟩
  replace hS := hS.call hb8
  refine ⟨_, rfl, ?_⟩
  intro a hA
  refine seq_do (v := .bool false) hA rfl rfl rfl (does_un rfl un_not) ?_
  intro a hA
  refine seq_do hA rfl rfl rfl (does_move rfl) ?_
  intro a hA
  refine seq_do (v := .agg #[.bool q.b1, .slice u1 q.t1.length uc1, .slice u2 q.q1.length uc2, .bool q.b2, .slice u3 q.t2.length uc3, .slice u4 q.q2.length uc4]) hA rfl rfl rfl (does_loadS hS RfD_isS_26 rfl 0 rfl (cs := [.bool q.b1, .slice u1 q.t1.length uc1, .slice u2 q.q1.length uc2, .bool q.b2, .slice u3 q.t2.length uc3, .slice u4 q.q2.length uc4]) rfl rfl) ?_
  intro a hA
  refine seq_call hA rfl rfl rfl (enters_func  rfl rfl (fun w => by kernel_rfl)) (rsoundQ_any (show Nm _ q u1 uc1 u2 uc2 u3 uc3 u4 uc4 from ⟨⟨(hS.rd 3 rfl), hb.s1.nil, hb.s1.cap⟩, ⟨(hS.rd 2 rfl), hb.s2.nil, hb.s2.cap⟩, ⟨(hS.rd 1 rfl), hb.s3.nil, hb.s3.cap⟩, ⟨(hS.rd 0 rfl), hb.s4.nil, hb.s4.cap⟩⟩) hm h2) ?_
  rintro _ w11 ⟨rfl, hb10⟩
  replace hS := hS.call hb10
  refine ⟨_, rfl, ?_⟩
  intro a hA
  refine seq_do (v := .bool false) hA rfl rfl rfl (does_un rfl un_not) ?_
  intro a hA
  refine seq_do (v := .bool false) hA rfl rfl rfl (does_pick rfl rfl rfl rfl) ?_
  intro a hA
  refine seq_end ?_
  refine hK7 _ _ ?_
  refine wp_cond_false (hA.ev rfl) ?_
  refine wp_skip ?_
  refine hK6 _ _ ?_
  refine wp_seq_k (fun K12 hK12 => ?_)
  refine wp_seq_k (fun K13 hK13 => ?_)
  refine wp_region_lit ?_
  refine seq_do (v := .agg #[.bool p.b1, .slice a1 p.t1.length ac1, .slice a2 p.q1.length ac2, .bool p.b2, .slice a3 p.t2.length ac3, .slice a4 p.q2.length ac4]) hA rfl rfl rfl (does_loadS hS RfD_isS_26 rfl 1 rfl (cs := [.bool p.b1, .slice a1 p.t1.length ac1, .slice a2 p.q1.length ac2, .bool p.b2, .slice a3 p.t2.length ac3, .slice a4 p.q2.length ac4]) rfl rfl) ?_
  intro a hA
  refine seq_call hA rfl rfl rfl (enters_func  rfl rfl (fun w => by kernel_rfl)) (rrealQ_any (show Nm _ p a1 ac1 a2 ac2 a3 ac3 a4 ac4 from ⟨⟨(hS.rd 7 rfl), ha.s1.nil, ha.s1.cap⟩, ⟨(hS.rd 6 rfl), ha.s2.nil, ha.s2.cap⟩, ⟨(hS.rd 5 rfl), ha.s3.nil, ha.s3.cap⟩, ⟨(hS.rd 4 rfl), ha.s4.nil, ha.s4.cap⟩⟩) hl h3) ?_
  rintro _ w15 ⟨rfl, hb14⟩
  replace hS := hS.call hb14
  refine ⟨_, rfl, ?_⟩
  intro a hA
  refine seq_do (v := .bool false) hA rfl rfl rfl (does_un rfl un_not) ?_
  intro a hA
  refine seq_do hA rfl rfl rfl (does_move rfl) ?_
  intro a hA
  refine seq_do (v := .agg #[.bool q.b1, .slice u1 q.t1.length uc1, .slice u2 q.q1.length uc2, .bool q.b2, .slice u3 q.t2.length uc3, .slice u4 q.q2.length uc4]) hA rfl rfl rfl (does_loadS hS RfD_isS_26 rfl 0 rfl (cs := [.bool q.b1, .slice u1 q.t1.length uc1, .slice u2 q.q1.length uc2, .bool q.b2, .slice u3 q.t2.length uc3, .slice u4 q.q2.length uc4]) rfl rfl) ?_
  intro a hA
  refine seq_call hA rfl rfl rfl (enters_func  rfl rfl (fun w => by kernel_rfl)) (rrealQ_any (show Nm _ q u1 uc1 u2 uc2 u3 uc3 u4 uc4 from ⟨⟨(hS.rd 3 rfl), hb.s1.nil, hb.s1.cap⟩, ⟨(hS.rd 2 rfl), hb.s2.nil, hb.s2.cap⟩, ⟨(hS.rd 1 rfl), hb.s3.nil, hb.s3.cap⟩, ⟨(hS.rd 0 rfl), hb.s4.nil, hb.s4.cap⟩⟩) hm h4) ?_
  rintro _ w17 ⟨rfl, hb16⟩
  replace hS := hS.call hb16
  refine ⟨_, rfl, ?_⟩
  intro a hA
  refine seq_do (v := .bool true) hA rfl rfl rfl (does_un rfl un_not) ?_
  intro a hA
  refine seq_do (v := .bool true) hA rfl rfl rfl (does_pick rfl rfl rfl rfl) ?_
  intro a hA
  refine seq_end ?_
  refine hK13 _ _ ?_
  refine wp_cond_true (hA.ev rfl) ?_
  refine wp_seq_k (fun K18 hK18 => ?_)
  refine wp_region_lit ?_
  refine seq_do hA rfl rfl rfl (does_assign rfl) ?_
  intro a hA
  refine seq_do hA rfl rfl rfl (does_assign rfl) ?_
  intro a hA
  refine seq_end ?_
  refine hK18 _ _ ?_
  refine wp_ret ?_
  refine hret _ _ ?_
  refine ends (v := .tuple #[.int .i64 0, .int .i64 10]) hA rfl (.cons (res_tmp rfl) (.cons (res_tmp rfl) .nil)) rfl ?_
  exact ⟨rfl, hS.bel⟩
theorem rcmpW_any {w : World} {u v x y : Rat} {a1 a2 a3 a4 : Option Addr} {ac1 ac2 ac3 ac4 : Nat} (ha : Nm w (Q6.rat u v) a1 ac1 a2 ac2 a3 ac3 a4 ac4) {u1 u2 u3 u4 : Option Addr} {uc1 uc2 uc3 uc4 : Nat} (hb : Nm w (Q6.rat x y) u1 uc1 u2 uc2 u3 uc3 u4 uc4) (hu : fitR u) (hv : fitR v) (hx : fitR x) (hy : fitR y) (k1 : decide ((Q6.rat u v).t2.length = 0) = true) (k2 : decide ((Q6.rat x y).t2.length = 0) = true) : Calls Tryz.prog 13 #[numV (Q6.rat u v) a1 ac1 a2 ac2 a3 ac3 a4 ac4, numV (Q6.rat x y) u1 uc1 u2 uc2 u3 uc3 u4 uc4] w fun e w' => e = .returned (.tuple #[.int .i64 (cmpR u x), .int .i64 0]) ∧ Below w.heap.size w w' := by
  have hS : St w w [] [(u4, words y.den), (u3, words y.num.natAbs), (u2, words x.den), (u1, words x.num.natAbs), (a4, words v.den), (a3, words v.num.natAbs), (a2, words u.den), (a1, words u.num.natAbs)] [] := ((((((((St.start w).addR ha.s1.rd).addR ha.s2.rd).addR ha.s3.rd).addR ha.s4.rd).addR hb.s1.rd).addR hb.s2.rd).addR hb.s3.rd).addR hb.s4.rd
  refine walk_of (l := [(0, .agg #[.bool (rb u.num), .slice a1 ((words u.num.natAbs).length) ac1, .slice a2 ((words u.den).length) ac2, .bool (rb v.num), .slice a3 ((words v.num.natAbs).length) ac3, .slice a4 ((words v.den).length) ac4]), (1, .agg #[.bool (rb x.num), .slice u1 ((words x.num.natAbs).length) uc1, .slice u2 ((words x.den).length) uc2, .bool (rb y.num), .slice u3 ((words y.num.natAbs).length) uc3, .slice u4 ((words y.den).length) uc4])]) Tryz.func13 rfl Tryz.ntmps13 rfl rfl ?_
  intro Q hret hnorm hP a hA
  refine wp_seq_k (fun K1 hK1 => ?_)
  refine wp_region_lit ?_
  refine seq_new (vs := [.bool (rb u.num), .slice a1 ((words u.num.natAbs).length) ac1, .slice a2 ((words u.den).length) ac2, .bool (rb v.num), .slice a3 ((words v.num.natAbs).length) ac3, .slice a4 ((words v.den).length) ac4]) (t := 26) hA hS rfl rfl rfl (fun g => .pointer (some ⟨g, 0, none⟩)) (does_box rfl rfl) rfl ?_
  intro g2 w3 hS a hA
  refine seq_new (vs := [.bool (rb x.num), .slice u1 ((words x.num.natAbs).length) uc1, .slice u2 ((words x.den).length) uc2, .bool (rb y.num), .slice u3 ((words y.num.natAbs).length) uc3, .slice u4 ((words y.den).length) uc4]) (t := 26) hA hS rfl rfl rfl (fun g => .pointer (some ⟨g, 0, none⟩)) (does_box rfl rfl) rfl ?_
  intro g4 w5 hS a hA
  refine seq_do hA rfl rfl rfl (does_assign rfl) ?_
  intro a hA
  refine seq_do hA rfl rfl rfl (does_assign rfl) ?_
  intro a hA
  refine seq_end ?_
  refine hK1 _ _ ?_
  refine wp_seq_k (fun K6 hK6 => ?_)
  refine wp_seq_k (fun K7 hK7 => ?_)
  refine wp_region_lit ?_
  refine seq_do (v := .agg #[.bool (rb u.num), .slice a1 ((words u.num.natAbs).length) ac1, .slice a2 ((words u.den).length) ac2, .bool (rb v.num), .slice a3 ((words v.num.natAbs).length) ac3, .slice a4 ((words v.den).length) ac4]) hA rfl rfl rfl (does_loadS hS RfD_isS_26 rfl 1 rfl (cs := [.bool (rb u.num), .slice a1 ((words u.num.natAbs).length) ac1, .slice a2 ((words u.den).length) ac2, .bool (rb v.num), .slice a3 ((words v.num.natAbs).length) ac3, .slice a4 ((words v.den).length) ac4]) rfl rfl) ?_
  intro a hA
  refine seq_call hA rfl rfl rfl (enters_func  rfl rfl (fun w => by kernel_rfl)) (rsoundQ_any (show Nm _ (Q6.rat u v) a1 ac1 a2 ac2 a3 ac3 a4 ac4 from ⟨⟨(hS.rd 7 rfl), ha.s1.nil, ha.s1.cap⟩, ⟨(hS.rd 6 rfl), ha.s2.nil, ha.s2.cap⟩, ⟨(hS.rd 5 rfl), ha.s3.nil, ha.s3.cap⟩, ⟨(hS.rd 4 rfl), ha.s4.nil, ha.s4.cap⟩⟩) (lenQ_rat hu hv) (soundQ_rat hu hv)) ?_
  rintro _ w9 ⟨rfl, hb8⟩
  replace hS := hS.call hb8
  refine ⟨_, rfl, ?_⟩
  intro a hA
  refine seq_do (v := .bool false) hA rfl rfl rfl (does_un rfl un_not) ?_
  intro a hA
  refine seq_do hA rfl rfl rfl (does_move rfl) ?_
  intro a hA
  refine seq_do (v := .agg #[.bool (rb x.num), .slice u1 ((words x.num.natAbs).length) uc1, .slice u2 ((words x.den).length) uc2, .bool (rb y.num), .slice u3 ((words y.num.natAbs).length) uc3, .slice u4 ((words y.den).length) uc4]) hA rfl rfl rfl (does_loadS hS RfD_isS_26 rfl 0 rfl (cs := [.bool (rb x.num), .slice u1 ((words x.num.natAbs).length) uc1, .slice u2 ((words x.den).length) uc2, .bool (rb y.num), .slice u3 ((words y.num.natAbs).length) uc3, .slice u4 ((words y.den).length) uc4]) rfl rfl) ?_
  intro a hA
  refine seq_call hA rfl rfl rfl (enters_func  rfl rfl (fun w => by kernel_rfl)) (rsoundQ_any (show Nm _ (Q6.rat x y) u1 uc1 u2 uc2 u3 uc3 u4 uc4 from ⟨⟨(hS.rd 3 rfl), hb.s1.nil, hb.s1.cap⟩, ⟨(hS.rd 2 rfl), hb.s2.nil, hb.s2.cap⟩, ⟨(hS.rd 1 rfl), hb.s3.nil, hb.s3.cap⟩, ⟨(hS.rd 0 rfl), hb.s4.nil, hb.s4.cap⟩⟩) (lenQ_rat hx hy) (soundQ_rat hx hy)) ?_
  rintro _ w11 ⟨rfl, hb10⟩
  replace hS := hS.call hb10
  refine ⟨_, rfl, ?_⟩
  intro a hA
  refine seq_do (v := .bool false) hA rfl rfl rfl (does_un rfl un_not) ?_
  intro a hA
  refine seq_do (v := .bool false) hA rfl rfl rfl (does_pick rfl rfl rfl rfl) ?_
  intro a hA
  refine seq_end ?_
  refine hK7 _ _ ?_
  refine wp_cond_false (hA.ev rfl) ?_
  refine wp_skip ?_
  refine hK6 _ _ ?_
  refine wp_seq_k (fun K12 hK12 => ?_)
  refine wp_seq_k (fun K13 hK13 => ?_)
  refine wp_region_lit ?_
  refine seq_do (v := .agg #[.bool (rb u.num), .slice a1 ((words u.num.natAbs).length) ac1, .slice a2 ((words u.den).length) ac2, .bool (rb v.num), .slice a3 ((words v.num.natAbs).length) ac3, .slice a4 ((words v.den).length) ac4]) hA rfl rfl rfl (does_loadS hS RfD_isS_26 rfl 1 rfl (cs := [.bool (rb u.num), .slice a1 ((words u.num.natAbs).length) ac1, .slice a2 ((words u.den).length) ac2, .bool (rb v.num), .slice a3 ((words v.num.natAbs).length) ac3, .slice a4 ((words v.den).length) ac4]) rfl rfl) ?_
  intro a hA
  refine seq_call hA rfl rfl rfl (enters_func  rfl rfl (fun w => by kernel_rfl)) (rrealQ_any (show Nm _ (Q6.rat u v) a1 ac1 a2 ac2 a3 ac3 a4 ac4 from ⟨⟨(hS.rd 7 rfl), ha.s1.nil, ha.s1.cap⟩, ⟨(hS.rd 6 rfl), ha.s2.nil, ha.s2.cap⟩, ⟨(hS.rd 5 rfl), ha.s3.nil, ha.s3.cap⟩, ⟨(hS.rd 4 rfl), ha.s4.nil, ha.s4.cap⟩⟩) (lenQ_rat hu hv) k1) ?_
  rintro _ w15 ⟨rfl, hb14⟩
  replace hS := hS.call hb14
  refine ⟨_, rfl, ?_⟩
  intro a hA
  refine seq_do (v := .bool false) hA rfl rfl rfl (does_un rfl un_not) ?_
  intro a hA
  refine seq_do hA rfl rfl rfl (does_move rfl) ?_
  intro a hA
  refine seq_do (v := .agg #[.bool (rb x.num), .slice u1 ((words x.num.natAbs).length) uc1, .slice u2 ((words x.den).length) uc2, .bool (rb y.num), .slice u3 ((words y.num.natAbs).length) uc3, .slice u4 ((words y.den).length) uc4]) hA rfl rfl rfl (does_loadS hS RfD_isS_26 rfl 0 rfl (cs := [.bool (rb x.num), .slice u1 ((words x.num.natAbs).length) uc1, .slice u2 ((words x.den).length) uc2, .bool (rb y.num), .slice u3 ((words y.num.natAbs).length) uc3, .slice u4 ((words y.den).length) uc4]) rfl rfl) ?_
  intro a hA
  refine seq_call hA rfl rfl rfl (enters_func  rfl rfl (fun w => by kernel_rfl)) (rrealQ_any (show Nm _ (Q6.rat x y) u1 uc1 u2 uc2 u3 uc3 u4 uc4 from ⟨⟨(hS.rd 3 rfl), hb.s1.nil, hb.s1.cap⟩, ⟨(hS.rd 2 rfl), hb.s2.nil, hb.s2.cap⟩, ⟨(hS.rd 1 rfl), hb.s3.nil, hb.s3.cap⟩, ⟨(hS.rd 0 rfl), hb.s4.nil, hb.s4.cap⟩⟩) (lenQ_rat hx hy) k2) ?_
  rintro _ w17 ⟨rfl, hb16⟩
  replace hS := hS.call hb16
  refine ⟨_, rfl, ?_⟩
  intro a hA
  refine seq_do (v := .bool false) hA rfl rfl rfl (does_un rfl un_not) ?_
  intro a hA
  refine seq_do (v := .bool false) hA rfl rfl rfl (does_pick rfl rfl rfl rfl) ?_
  intro a hA
  refine seq_end ?_
  refine hK13 _ _ ?_
  refine wp_cond_false (hA.ev rfl) ?_
  refine wp_skip ?_
  refine hK12 _ _ ?_
  refine wp_seq_k (fun K18 hK18 => ?_)
  refine wp_region_lit ?_
  refine seq_do (v := .pointer (some ⟨g2, 0, none⟩)) hA rfl rfl rfl (does_field RfD_fld_26_0 rfl rfl) ?_
  intro a hA
  refine seq_do (v := .agg #[.bool (rb u.num), .slice a1 ((words u.num.natAbs).length) ac1, .slice a2 ((words u.den).length) ac2]) hA rfl rfl rfl (does_loadS hS RfD_isS_24 rfl 1 rfl (cs := [.bool (rb u.num), .slice a1 ((words u.num.natAbs).length) ac1, .slice a2 ((words u.den).length) ac2]) rfl rfl) ?_
  intro a hA
  refine seq_do (v := .pointer (some ⟨g4, 0, none⟩)) hA rfl rfl rfl (does_field RfD_fld_26_0 rfl rfl) ?_
  intro a hA
  refine seq_do (v := .agg #[.bool (rb x.num), .slice u1 ((words x.num.natAbs).length) uc1, .slice u2 ((words x.den).length) uc2]) hA rfl rfl rfl (does_loadS hS RfD_isS_24 rfl 0 rfl (cs := [.bool (rb x.num), .slice u1 ((words x.num.natAbs).length) uc1, .slice u2 ((words x.den).length) uc2]) rfl rfl) ?_
  intro a hA
  refine seq_call hA rfl rfl rfl (enters_func  rfl rfl (fun w => by kernel_rfl)) (rorderR_any (u := u) (v := x) ⟨(hS.rd 7 rfl), ha.s1.nil, ha.s1.cap⟩ ⟨(hS.rd 6 rfl), ha.s2.nil, ha.s2.cap⟩ ⟨(hS.rd 3 rfl), hb.s1.nil, hb.s1.cap⟩ ⟨(hS.rd 2 rfl), hb.s2.nil, hb.s2.cap⟩ (fit_lenR hu) (fit_lenR hx) rfl rfl rfl (lenR_neg (fit_lenR hx)) ((lenR_add (fit_lenR hu) (lenR_neg (fit_lenR hx))).mono (by decide))) ?_
  rintro _ w20 ⟨rfl, hb19⟩
  replace hS := hS.call hb19
  refine ⟨_, rfl, ?_⟩
  intro a hA
  refine seq_do hA rfl rfl rfl (does_assign rfl) ?_
  intro a hA
  refine seq_do hA rfl rfl rfl (does_assign rfl) ?_
  intro a hA
  refine seq_end ?_
  refine hK18 _ _ ?_
  refine wp_ret ?_
  refine hret _ _ ?_
  refine ends (v := .tuple #[.int .i64 (cmpR u x), .int .i64 0]) hA rfl (.cons (res_tmp rfl) (.cons (res_tmp rfl) .nil)) rfl ?_
  exact ⟨rfl, hS.bel⟩
theorem cmpQ_err {p q : Q6} {n : Int} (h : wantR2 p q = n) (hn : n ≠ 0) : cmpQ p q = (0, n) := by
  subst h
  unfold cmpQ
  rw [if_neg hn]
theorem rcmpQ_any {w : World} {p q : Q6} {a1 a2 a3 a4 : Option Addr} {ac1 ac2 ac3 ac4 : Nat} (ha : Nm w p a1 ac1 a2 ac2 a3 ac3 a4 ac4) (hl : LenQ p) {u1 u2 u3 u4 : Option Addr} {uc1 uc2 uc3 uc4 : Nat} (hb : Nm w q u1 uc1 u2 uc2 u3 uc3 u4 uc4) (hm : LenQ q) : Calls Tryz.prog 13 #[numV p a1 ac1 a2 ac2 a3 ac3 a4 ac4, numV q u1 uc1 u2 uc2 u3 uc3 u4 uc4] w fun e w' => e = .returned (.tuple #[.int .i64 (cmpQ p q).1, .int .i64 (cmpQ p q).2]) ∧ Below w.heap.size w w' := by
  rcases sound_cases ha with h1 | ⟨u, v, rfl, hu, hv⟩
  · rw [cmpQ_err (wantR2_bad (.inl h1)) (by decide)]
    exact rcmpE0_any ha hl hb hm h1
  have s1 := soundQ_rat hu hv
  rcases sound_cases hb with h2 | ⟨x, y, rfl, hx, hy⟩
  · rw [cmpQ_err (wantR2_bad (.inr h2)) (by decide)]
    exact rcmpE1_any ha hl hb hm s1 h2
  have s2 := soundQ_rat hx hy
  have hw : ∀ n : Int, (if (Q6.rat u v).t2.length = 0 ∧ (Q6.rat x y).t2.length = 0 then (0 : Int) else 10) = n → wantR2 (Q6.rat u v) (Q6.rat x y) = n := fun n h => by
    unfold wantR2
    rw [if_pos ⟨s1, s2⟩]
    exact h
  by_cases k1 : (Q6.rat u v).t2.length = 0
  · by_cases k2 : (Q6.rat x y).t2.length = 0
    · rw [show cmpQ (Q6.rat u v) (Q6.rat x y) = (cmpR u x, 0) from by
        unfold cmpQ
        rw [if_pos (hw 0 (if_pos ⟨k1, k2⟩)), reQ_rat, reQ_rat]]
      exact rcmpW_any ha hb hu hv hx hy (decide_eq_true k1) (decide_eq_true k2)
    · rw [cmpQ_err (hw 10 (if_neg (fun c => k2 c.2))) (by decide)]
      exact rcmpE3_any ha hl hb hm s1 s2 (decide_eq_true k1) (decide_eq_false k2)
  · rw [cmpQ_err (hw 10 (if_neg (fun c => k1 c.1))) (by decide)]
    exact rcmpE2_any ha hl hb hm s1 s2 (decide_eq_false k1)
end Go.Proofs.YthlkbnhbmfmchaaGreat
namespace Go.Proofs.YthlkbnhbmfmchaaGreat
open Go.RowKit
set_option linter.unusedVariables false
set_option linter.unusedSimpArgs false
set_option maxRecDepth 100000
theorem RfE_fld_26_0 : FieldAt Tryz.prog 26 0 0 := ⟨_, _, Tryz.underlying26, rfl, rfl, by kernel_rfl⟩
theorem RfE_fld_26_1 : FieldAt Tryz.prog 26 1 3 := ⟨_, _, Tryz.underlying26, rfl, rfl, by kernel_rfl⟩
theorem RfE_isS_24 : IsS Tryz.prog 24 3 := ⟨⟨_, Tryz.underlying24⟩, by kernel_rfl⟩
theorem RfE_isS_26 : IsS Tryz.prog 26 6 := ⟨⟨_, Tryz.underlying26⟩, by kernel_rfl⟩
theorem rsameQ_any {w : World} {p q : Q6} {a1 a2 a3 a4 : Option Addr} {ac1 ac2 ac3 ac4 : Nat} (ha : Nm w p a1 ac1 a2 ac2 a3 ac3 a4 ac4) (hl : LenQ p) {u1 u2 u3 u4 : Option Addr} {uc1 uc2 uc3 uc4 : Nat} (hu : Nm w q u1 uc1 u2 uc2 u3 uc3 u4 uc4) (hm : LenQ q) {r : Bool} (hr : sameQ p q = r) : Calls Tryz.prog 19 #[numV p a1 ac1 a2 ac2 a3 ac3 a4 ac4, numV q u1 uc1 u2 uc2 u3 uc3 u4 uc4] w fun e w' => e = .returned (.bool r) ∧ Below w.heap.size w w' := by
  have hS : St w w [] [(u4, q.q2), (u3, q.t2), (u2, q.q1), (u1, q.t1), (a4, p.q2), (a3, p.t2), (a2, p.q1), (a1, p.t1)] [] := ((((((((St.start w).addR ha.s1.rd).addR ha.s2.rd).addR ha.s3.rd).addR ha.s4.rd).addR hu.s1.rd).addR hu.s2.rd).addR hu.s3.rd).addR hu.s4.rd
  refine walk_of (l := [(0, .agg #[.bool p.b1, .slice a1 p.t1.length ac1, .slice a2 p.q1.length ac2, .bool p.b2, .slice a3 p.t2.length ac3, .slice a4 p.q2.length ac4]), (1, .agg #[.bool q.b1, .slice u1 q.t1.length uc1, .slice u2 q.q1.length uc2, .bool q.b2, .slice u3 q.t2.length uc3, .slice u4 q.q2.length uc4])]) Tryz.func19 rfl Tryz.ntmps19 rfl rfl ?_
  intro Q hret hnorm hP a hA
  refine wp_seq_k (fun K1 hK1 => ?_)
  refine wp_region_lit ?_
  refine seq_new (vs := [.bool p.b1, .slice a1 p.t1.length ac1, .slice a2 p.q1.length ac2, .bool p.b2, .slice a3 p.t2.length ac3, .slice a4 p.q2.length ac4]) (t := 26) hA hS rfl rfl rfl (fun g => .pointer (some ⟨g, 0, none⟩)) (does_box rfl rfl) rfl ?_
  intro g2 w3 hS a hA
  refine seq_new (vs := [.bool q.b1, .slice u1 q.t1.length uc1, .slice u2 q.q1.length uc2, .bool q.b2, .slice u3 q.t2.length uc3, .slice u4 q.q2.length uc4]) (t := 26) hA hS rfl rfl rfl (fun g => .pointer (some ⟨g, 0, none⟩)) (does_box rfl rfl) rfl ?_
  intro g4 w5 hS a hA
  refine seq_do hA rfl rfl rfl (does_assign rfl) ?_
  intro a hA
  refine seq_end ?_
  refine hK1 _ _ ?_
  refine wp_seq_k (fun K6 hK6 => ?_)
  refine wp_region_lit ?_
  refine seq_do (v := .agg #[.bool p.b1, .slice a1 p.t1.length ac1, .slice a2 p.q1.length ac2, .bool p.b2, .slice a3 p.t2.length ac3, .slice a4 p.q2.length ac4]) hA rfl rfl rfl (does_loadS hS RfE_isS_26 rfl 1 rfl (cs := [.bool p.b1, .slice a1 p.t1.length ac1, .slice a2 p.q1.length ac2, .bool p.b2, .slice a3 p.t2.length ac3, .slice a4 p.q2.length ac4]) rfl rfl) ?_
  intro a hA
  rcases Bool.eq_false_or_eq_true (soundQ p) with hb7 | hb7
  · refine seq_call hA rfl rfl rfl (enters_func  rfl rfl (fun w => by kernel_rfl)) (rsoundQ_any (show Nm _ _ a1 ac1 a2 ac2 a3 ac3 a4 ac4 from ⟨⟨(hS.rd 7 rfl), ha.s1.nil, ha.s1.cap⟩, ⟨(hS.rd 6 rfl), ha.s2.nil, ha.s2.cap⟩, ⟨(hS.rd 5 rfl), ha.s3.nil, ha.s3.cap⟩, ⟨(hS.rd 4 rfl), ha.s4.nil, ha.s4.cap⟩⟩) hl hb7) ?_
    rintro _ w9 ⟨rfl, hb8⟩
    replace hS := hS.call hb8
    refine ⟨_, rfl, ?_⟩
    intro a hA
    refine seq_do hA rfl rfl rfl (does_move rfl) ?_
    intro a hA
    refine seq_do (v := .agg #[.bool q.b1, .slice u1 q.t1.length uc1, .slice u2 q.q1.length uc2, .bool q.b2, .slice u3 q.t2.length uc3, .slice u4 q.q2.length uc4]) hA rfl rfl rfl (does_loadS hS RfE_isS_26 rfl 0 rfl (cs := [.bool q.b1, .slice u1 q.t1.length uc1, .slice u2 q.q1.length uc2, .bool q.b2, .slice u3 q.t2.length uc3, .slice u4 q.q2.length uc4]) rfl rfl) ?_
    intro a hA
    rcases Bool.eq_false_or_eq_true (soundQ q) with hb10 | hb10
    · refine seq_call hA rfl rfl rfl (enters_func  rfl rfl (fun w => by kernel_rfl)) (rsoundQ_any (show Nm _ _ u1 uc1 u2 uc2 u3 uc3 u4 uc4 from ⟨⟨(hS.rd 3 rfl), hu.s1.nil, hu.s1.cap⟩, ⟨(hS.rd 2 rfl), hu.s2.nil, hu.s2.cap⟩, ⟨(hS.rd 1 rfl), hu.s3.nil, hu.s3.cap⟩, ⟨(hS.rd 0 rfl), hu.s4.nil, hu.s4.cap⟩⟩) hm hb10) ?_
      rintro _ w12 ⟨rfl, hb11⟩
      replace hS := hS.call hb11
      refine ⟨_, rfl, ?_⟩
      intro a hA
      refine seq_do (v := .bool true) hA rfl rfl rfl (does_pick rfl rfl rfl rfl) ?_
      intro a hA
      refine seq_do hA rfl rfl rfl (does_move rfl) ?_
      intro a hA
      refine seq_do (v := .pointer (some ⟨g2, 0, none⟩)) hA rfl rfl rfl (does_field RfE_fld_26_0 rfl rfl) ?_
      intro a hA
      refine seq_do (v := .agg #[.bool p.b1, .slice a1 p.t1.length ac1, .slice a2 p.q1.length ac2]) hA rfl rfl rfl (does_loadS hS RfE_isS_24 rfl 1 rfl (cs := [.bool p.b1, .slice a1 p.t1.length ac1, .slice a2 p.q1.length ac2]) rfl rfl) ?_
      intro a hA
      refine seq_do (v := .pointer (some ⟨g4, 0, none⟩)) hA rfl rfl rfl (does_field RfE_fld_26_0 rfl rfl) ?_
      intro a hA
      refine seq_do (v := .agg #[.bool q.b1, .slice u1 q.t1.length uc1, .slice u2 q.q1.length uc2]) hA rfl rfl rfl (does_loadS hS RfE_isS_24 rfl 0 rfl (cs := [.bool q.b1, .slice u1 q.t1.length uc1, .slice u2 q.q1.length uc2]) rfl rfl) ?_
      intro a hA
      rcases Bool.eq_false_or_eq_true (sameF p.b1 p.t1 p.q1 q.b1 q.t1 q.q1) with hb13 | hb13
      · refine seq_call hA rfl rfl rfl (enters_func  rfl rfl (fun w => by kernel_rfl)) (ratSame_any ⟨(hS.rd 7 rfl), ha.s1.nil, ha.s1.cap⟩ ⟨(hS.rd 6 rfl), ha.s2.nil, ha.s2.cap⟩ ⟨(hS.rd 3 rfl), hu.s1.nil, hu.s1.cap⟩ ⟨(hS.rd 2 rfl), hu.s2.nil, hu.s2.cap⟩ hl.l1 hl.l2 hm.l1 hm.l2 hb13) ?_
        rintro _ w15 ⟨rfl, hb14⟩
        replace hS := hS.call hb14
        refine ⟨_, rfl, ?_⟩
        intro a hA
        refine seq_do (v := .bool true) hA rfl rfl rfl (does_pick rfl rfl rfl rfl) ?_
        intro a hA
        refine seq_do hA rfl rfl rfl (does_move rfl) ?_
        intro a hA
        refine seq_do (v := .pointer (some ⟨g2, 3, none⟩)) hA rfl rfl rfl (does_field RfE_fld_26_1 rfl rfl) ?_
        intro a hA
        refine seq_do (v := .agg #[.bool p.b2, .slice a3 p.t2.length ac3, .slice a4 p.q2.length ac4]) hA rfl rfl rfl (does_loadS hS RfE_isS_24 rfl 1 rfl (cs := [.bool p.b2, .slice a3 p.t2.length ac3, .slice a4 p.q2.length ac4]) rfl rfl) ?_
        intro a hA
        refine seq_do (v := .pointer (some ⟨g4, 3, none⟩)) hA rfl rfl rfl (does_field RfE_fld_26_1 rfl rfl) ?_
        intro a hA
        refine seq_do (v := .agg #[.bool q.b2, .slice u3 q.t2.length uc3, .slice u4 q.q2.length uc4]) hA rfl rfl rfl (does_loadS hS RfE_isS_24 rfl 0 rfl (cs := [.bool q.b2, .slice u3 q.t2.length uc3, .slice u4 q.q2.length uc4]) rfl rfl) ?_
        intro a hA
        rcases Bool.eq_false_or_eq_true (sameF p.b2 p.t2 p.q2 q.b2 q.t2 q.q2) with hb16 | hb16
        · refine seq_call hA rfl rfl rfl (enters_func  rfl rfl (fun w => by kernel_rfl)) (ratSame_any ⟨(hS.rd 5 rfl), ha.s3.nil, ha.s3.cap⟩ ⟨(hS.rd 4 rfl), ha.s4.nil, ha.s4.cap⟩ ⟨(hS.rd 1 rfl), hu.s3.nil, hu.s3.cap⟩ ⟨(hS.rd 0 rfl), hu.s4.nil, hu.s4.cap⟩ hl.l3 hl.l4 hm.l3 hm.l4 hb16) ?_
          rintro _ w18 ⟨rfl, hb17⟩
          replace hS := hS.call hb17
          refine ⟨_, rfl, ?_⟩
          intro a hA
          refine seq_do (v := .bool true) hA rfl rfl rfl (does_pick rfl rfl rfl rfl) ?_
          intro a hA
          refine seq_do hA rfl rfl rfl (does_assign rfl) ?_
          intro a hA
          refine seq_end ?_
          refine hK6 _ _ ?_
          refine wp_ret ?_
          refine hret _ _ ?_
          refine ends (v := .bool true) hA rfl (.cons (res_tmp rfl) .nil) rfl ?_
          subst hr
          exact ⟨by unfold sameQ; rw [hb7, hb10, hb13, hb16]; try rfl, hS.bel⟩
        · refine seq_call hA rfl rfl rfl (enters_func  rfl rfl (fun w => by kernel_rfl)) (ratSame_any ⟨(hS.rd 5 rfl), ha.s3.nil, ha.s3.cap⟩ ⟨(hS.rd 4 rfl), ha.s4.nil, ha.s4.cap⟩ ⟨(hS.rd 1 rfl), hu.s3.nil, hu.s3.cap⟩ ⟨(hS.rd 0 rfl), hu.s4.nil, hu.s4.cap⟩ hl.l3 hl.l4 hm.l3 hm.l4 hb16) ?_
          rintro _ w20 ⟨rfl, hb19⟩
          replace hS := hS.call hb19
          refine ⟨_, rfl, ?_⟩
          intro a hA
          refine seq_do (v := .bool false) hA rfl rfl rfl (does_pick rfl rfl rfl rfl) ?_
          intro a hA
          refine seq_do hA rfl rfl rfl (does_assign rfl) ?_
          intro a hA
          refine seq_end ?_
          refine hK6 _ _ ?_
          refine wp_ret ?_
          refine hret _ _ ?_
          refine ends (v := .bool false) hA rfl (.cons (res_tmp rfl) .nil) rfl ?_
          subst hr
          exact ⟨by unfold sameQ; rw [hb7, hb10, hb13, hb16]; try rfl, hS.bel⟩
      · refine seq_call hA rfl rfl rfl (enters_func  rfl rfl (fun w => by kernel_rfl)) (ratSame_any ⟨(hS.rd 7 rfl), ha.s1.nil, ha.s1.cap⟩ ⟨(hS.rd 6 rfl), ha.s2.nil, ha.s2.cap⟩ ⟨(hS.rd 3 rfl), hu.s1.nil, hu.s1.cap⟩ ⟨(hS.rd 2 rfl), hu.s2.nil, hu.s2.cap⟩ hl.l1 hl.l2 hm.l1 hm.l2 hb13) ?_
        rintro _ w22 ⟨rfl, hb21⟩
        replace hS := hS.call hb21
        refine ⟨_, rfl, ?_⟩
        intro a hA
        refine seq_do (v := .bool false) hA rfl rfl rfl (does_pick rfl rfl rfl rfl) ?_
        intro a hA
        refine seq_do hA rfl rfl rfl (does_move rfl) ?_
        intro a hA
        refine seq_skip hA rfl rfl rfl ?_
        intro a hA
        refine seq_skip hA rfl rfl rfl ?_
        intro a hA
        refine seq_skip hA rfl rfl rfl ?_
        intro a hA
        refine seq_skip hA rfl rfl rfl ?_
        intro a hA
        refine seq_skip hA rfl rfl rfl ?_
        intro a hA
        refine seq_do (v := .bool false) hA rfl rfl rfl (does_pick rfl rfl rfl rfl) ?_
        intro a hA
        refine seq_do hA rfl rfl rfl (does_assign rfl) ?_
        intro a hA
        refine seq_end ?_
        refine hK6 _ _ ?_
        refine wp_ret ?_
        refine hret _ _ ?_
        refine ends (v := .bool false) hA rfl (.cons (res_tmp rfl) .nil) rfl ?_
        subst hr
        exact ⟨by unfold sameQ; rw [hb7, hb10, hb13]; try rfl, hS.bel⟩
    · refine seq_call hA rfl rfl rfl (enters_func  rfl rfl (fun w => by kernel_rfl)) (rsoundQ_any (show Nm _ _ u1 uc1 u2 uc2 u3 uc3 u4 uc4 from ⟨⟨(hS.rd 3 rfl), hu.s1.nil, hu.s1.cap⟩, ⟨(hS.rd 2 rfl), hu.s2.nil, hu.s2.cap⟩, ⟨(hS.rd 1 rfl), hu.s3.nil, hu.s3.cap⟩, ⟨(hS.rd 0 rfl), hu.s4.nil, hu.s4.cap⟩⟩) hm hb10) ?_
      rintro _ w24 ⟨rfl, hb23⟩
      replace hS := hS.call hb23
      refine ⟨_, rfl, ?_⟩
      intro a hA
      refine seq_do (v := .bool false) hA rfl rfl rfl (does_pick rfl rfl rfl rfl) ?_
      intro a hA
      refine seq_do hA rfl rfl rfl (does_move rfl) ?_
      intro a hA
      refine seq_skip hA rfl rfl rfl ?_
      intro a hA
      refine seq_skip hA rfl rfl rfl ?_
      intro a hA
      refine seq_skip hA rfl rfl rfl ?_
      intro a hA
      refine seq_skip hA rfl rfl rfl ?_
      intro a hA
      refine seq_skip hA rfl rfl rfl ?_
      intro a hA
      refine seq_do (v := .bool false) hA rfl rfl rfl (does_pick rfl rfl rfl rfl) ?_
      intro a hA
      refine seq_do hA rfl rfl rfl (does_move rfl) ?_
      intro a hA
      refine seq_skip hA rfl rfl rfl ?_
      intro a hA
      refine seq_skip hA rfl rfl rfl ?_
      intro a hA
      refine seq_skip hA rfl rfl rfl ?_
      intro a hA
      refine seq_skip hA rfl rfl rfl ?_
      intro a hA
      refine seq_skip hA rfl rfl rfl ?_
      intro a hA
      refine seq_do (v := .bool false) hA rfl rfl rfl (does_pick rfl rfl rfl rfl) ?_
      intro a hA
      refine seq_do hA rfl rfl rfl (does_assign rfl) ?_
      intro a hA
      refine seq_end ?_
      refine hK6 _ _ ?_
      refine wp_ret ?_
      refine hret _ _ ?_
      refine ends (v := .bool false) hA rfl (.cons (res_tmp rfl) .nil) rfl ?_
      subst hr
      exact ⟨by unfold sameQ; rw [hb7, hb10]; try rfl, hS.bel⟩
  · refine seq_call hA rfl rfl rfl (enters_func  rfl rfl (fun w => by kernel_rfl)) (rsoundQ_any (show Nm _ _ a1 ac1 a2 ac2 a3 ac3 a4 ac4 from ⟨⟨(hS.rd 7 rfl), ha.s1.nil, ha.s1.cap⟩, ⟨(hS.rd 6 rfl), ha.s2.nil, ha.s2.cap⟩, ⟨(hS.rd 5 rfl), ha.s3.nil, ha.s3.cap⟩, ⟨(hS.rd 4 rfl), ha.s4.nil, ha.s4.cap⟩⟩) hl hb7) ?_
    rintro _ w26 ⟨rfl, hb25⟩
    replace hS := hS.call hb25
    refine ⟨_, rfl, ?_⟩
    intro a hA
    refine seq_do hA rfl rfl rfl (does_move rfl) ?_
    intro a hA
    refine seq_skip hA rfl rfl rfl ?_
    intro a hA
    refine seq_skip hA rfl rfl rfl ?_
    intro a hA
    refine seq_do (v := .bool false) hA rfl rfl rfl (does_pick rfl rfl rfl rfl) ?_
    intro a hA
    refine seq_do hA rfl rfl rfl (does_move rfl) ?_
    intro a hA
    refine seq_skip hA rfl rfl rfl ?_
    intro a hA
    refine seq_skip hA rfl rfl rfl ?_
    intro a hA
    refine seq_skip hA rfl rfl rfl ?_
    intro a hA
    refine seq_skip hA rfl rfl rfl ?_
    intro a hA
    refine seq_skip hA rfl rfl rfl ?_
    intro a hA
    refine seq_do (v := .bool false) hA rfl rfl rfl (does_pick rfl rfl rfl rfl) ?_
    intro a hA
    refine seq_do hA rfl rfl rfl (does_move rfl) ?_
    intro a hA
    refine seq_skip hA rfl rfl rfl ?_
    intro a hA
    refine seq_skip hA rfl rfl rfl ?_
    intro a hA
    refine seq_skip hA rfl rfl rfl ?_
    intro a hA
    refine seq_skip hA rfl rfl rfl ?_
    intro a hA
    refine seq_skip hA rfl rfl rfl ?_
    intro a hA
    refine seq_do (v := .bool false) hA rfl rfl rfl (does_pick rfl rfl rfl rfl) ?_
    intro a hA
    refine seq_do hA rfl rfl rfl (does_assign rfl) ?_
    intro a hA
    refine seq_end ?_
    refine hK6 _ _ ?_
    refine wp_ret ?_
    refine hret _ _ ?_
    refine ends (v := .bool false) hA rfl (.cons (res_tmp rfl) .nil) rfl ?_
    subst hr
    exact ⟨by unfold sameQ; rw [hb7]; try rfl, hS.bel⟩
end Go.Proofs.YthlkbnhbmfmchaaGreat
