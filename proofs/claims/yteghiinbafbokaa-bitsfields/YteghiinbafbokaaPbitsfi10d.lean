/- Walks of numbers put together bit by bit, and of Not. Numbers of machine words, and sameness. Walks of small numbers, of sameness, of the fixed fact. Rows of two's complement, as the document has them. Walks of the document's rows of two's complement. -/
import Derived.Test.YteghiinbafbokaaPbitsfi10c
import Derived.Test.YteghiinbafbokaaNatF
namespace Go.Proofs.Yteghiinbafbokaa
open Go.RowKit
set_option linter.unusedVariables false
set_option linter.unusedSimpArgs false
set_option maxRecDepth 100000

theorem bitE_any {w : World} {p q : Q6} {a1 a2 a3 a4 : Option Addr} {ac1 ac2 ac3 ac4 : Nat} (ha : Nm w p a1 ac1 a2 ac2 a3 ac3 a4 ac4) (hl : LenQ p) {u1 u2 u3 u4 : Option Addr} {uc1 uc2 uc3 uc4 : Nat} (hu : Nm w q u1 uc1 u2 uc2 u3 uc3 u4 uc4) (hm : LenQ q) {F : FuncId} {fop : Nat → Nat → Nat} {fb : Bool → Bool → Bool} (hF : Fun2 F fop) (hB : BOp fop fb) (hw : (want2 p q != 0) = true) : Calls Try.prog 22 #[.func (.func F) #[] #[], numV p a1 ac1 a2 ac2 a3 ac3 a4 ac4, numV q u1 uc1 u2 uc2 u3 uc3 u4 uc4] w (AnsN w (bitQ fop fb p q)) := by
  have hS : St w w [] [(u4, q.q2), (u3, q.t2), (u2, q.q1), (u1, q.t1), (a4, p.q2), (a3, p.t2), (a2, p.q1), (a1, p.t1)] [] := ((((((((St.start w).addR ha.s1.rd).addR ha.s2.rd).addR ha.s3.rd).addR ha.s4.rd).addR hu.s1.rd).addR hu.s2.rd).addR hu.s3.rd).addR hu.s4.rd
  refine walk_of (l := [(0, .func (.func F) #[] #[]), (1, .agg #[.bool p.b1, .slice a1 p.t1.length ac1, .slice a2 p.q1.length ac2, .bool p.b2, .slice a3 p.t2.length ac3, .slice a4 p.q2.length ac4]), (2, .agg #[.bool q.b1, .slice u1 q.t1.length uc1, .slice u2 q.q1.length uc2, .bool q.b2, .slice u3 q.t2.length uc3, .slice u4 q.q2.length uc4])]) Try.func22 rfl Try.ntmps22 rfl rfl ?_
  intro Q hret hnorm hP a hA
  refine wp_seq_k (fun K1 hK1 => ?_)
  refine wp_region_lit ?_
  refine seq_new (vs := [.bool p.b1, .slice a1 p.t1.length ac1, .slice a2 p.q1.length ac2, .bool p.b2, .slice a3 p.t2.length ac3, .slice a4 p.q2.length ac4]) (t := 26) hA hS rfl rfl rfl (fun g => .pointer (some ⟨g, 0, none⟩)) (does_box rfl rfl) rfl ?_
  intro g2 w3 hS a hA
  refine seq_new (vs := [.bool q.b1, .slice u1 q.t1.length uc1, .slice u2 q.q1.length uc2, .bool q.b2, .slice u3 q.t2.length uc3, .slice u4 q.q2.length uc4]) (t := 26) hA hS rfl rfl rfl (fun g => .pointer (some ⟨g, 0, none⟩)) (does_box rfl rfl) rfl ?_
  intro g4 w5 hS a hA
  refine seq_new (vs := [.bool false, .slice none 0 0, .slice none 0 0, .bool false, .slice none 0 0, .slice none 0 0]) (t := 26) hA hS rfl rfl rfl (fun g => .pointer (some ⟨g, 0, none⟩)) (does_alloc (z := .agg #[.bool false, .slice none 0 0, .slice none 0 0, .bool false, .slice none 0 0, .slice none 0 0]) (by kernel_rfl) rfl) rfl ?_
  intro g6 w7 hS a hA
  refine seq_do hA rfl rfl rfl (does_assign rfl) ?_
  intro a hA
  refine seq_end ?_
  refine hK1 _ _ ?_
  refine wp_seq_k (fun K8 hK8 => ?_)
  refine wp_seq_k (fun K9 hK9 => ?_)
  refine wp_region_lit ?_
  refine seq_do (v := .agg #[.bool p.b1, .slice a1 p.t1.length ac1, .slice a2 p.q1.length ac2, .bool p.b2, .slice a3 p.t2.length ac3, .slice a4 p.q2.length ac4]) hA rfl rfl rfl (does_loadS hS isS_26 rfl 2 rfl (cs := [.bool p.b1, .slice a1 p.t1.length ac1, .slice a2 p.q1.length ac2, .bool p.b2, .slice a3 p.t2.length ac3, .slice a4 p.q2.length ac4]) rfl rfl) ?_
  intro a hA
  refine seq_do (v := .agg #[.bool q.b1, .slice u1 q.t1.length uc1, .slice u2 q.q1.length uc2, .bool q.b2, .slice u3 q.t2.length uc3, .slice u4 q.q2.length uc4]) hA rfl rfl rfl (does_loadS hS isS_26 rfl 1 rfl (cs := [.bool q.b1, .slice u1 q.t1.length uc1, .slice u2 q.q1.length uc2, .bool q.b2, .slice u3 q.t2.length uc3, .slice u4 q.q2.length uc4]) rfl rfl) ?_
  intro a hA
  refine seq_new (vs := [.bool p.b1, .slice a1 p.t1.length ac1, .slice a2 p.q1.length ac2, .bool p.b2, .slice a3 p.t2.length ac3, .slice a4 p.q2.length ac4, .bool q.b1, .slice u1 q.t1.length uc1, .slice u2 q.q1.length uc2, .bool q.b2, .slice u3 q.t2.length uc3, .slice u4 q.q2.length uc4]) (t := 26) hA hS rfl rfl rfl (fun g => .slice (some ⟨g, 0, none⟩) 2 2) (does_buildSlice rfl (by kernel_rfl)) rfl ?_
  intro g10 w11 hS a hA
  refine seq_call hA rfl rfl rfl (enters_func  rfl rfl (fun w => by kernel_rfl)) (want2_any (show Nm _ p a1 ac1 a2 ac2 a3 ac3 a4 ac4 from ⟨⟨(hS.rd 7 rfl), ha.s1.nil, ha.s1.cap⟩, ⟨(hS.rd 6 rfl), ha.s2.nil, ha.s2.cap⟩, ⟨(hS.rd 5 rfl), ha.s3.nil, ha.s3.cap⟩, ⟨(hS.rd 4 rfl), ha.s4.nil, ha.s4.cap⟩⟩) hl (show Nm _ q u1 uc1 u2 uc2 u3 uc3 u4 uc4 from ⟨⟨(hS.rd 3 rfl), hu.s1.nil, hu.s1.cap⟩, ⟨(hS.rd 2 rfl), hu.s2.nil, hu.s2.cap⟩, ⟨(hS.rd 1 rfl), hu.s3.nil, hu.s3.cap⟩, ⟨(hS.rd 0 rfl), hu.s4.nil, hu.s4.cap⟩⟩) hm (hS.blk 0 rfl) rfl) ?_
  rintro _ w13 ⟨rfl, hb12⟩
  replace hS := hS.call hb12
  refine ⟨_, rfl, ?_⟩
  intro a hA
  refine seq_do hA rfl rfl rfl (does_assign rfl) ?_
  intro a hA
  refine seq_end ?_
  refine hK9 _ _ ?_
  refine wp_seq_k (fun K14 hK14 => ?_)
  refine wp_region_lit ?_
  refine seq_do hA rfl rfl rfl (does_move rfl) ?_
  intro a hA
  refine seq_do (v := .bool true) hA rfl rfl rfl (does_bin rfl rfl (fun w => (bin_neq w).trans (by rw [show ((want2 p q != 0)) = true from hw]))) ?_
  intro a hA
  refine seq_end ?_
  refine hK14 _ _ ?_
  refine wp_cond_true (hA.ev rfl) ?_
  refine wp_seq_k (fun K15 hK15 => ?_)
  refine wp_region_lit ?_
  refine seq_do (v := .agg #[.bool false, .slice none 0 0, .slice none 0 0, .bool false, .slice none 0 0, .slice none 0 0]) hA rfl rfl rfl (does_build rfl (fun w => by kernel_rfl)) ?_
  intro a hA
  refine seq_do hA rfl rfl rfl (does_move rfl) ?_
  intro a hA
  refine seq_store (us := [.bool false, .slice none 0 0, .slice none 0 0, .bool false, .slice none 0 0, .slice none 0 0]) hA hS rfl rfl (sets_store (cs := [.bool false, .slice none 0 0, .slice none 0 0, .bool false, .slice none 0 0, .slice none 0 0]) rfl rfl rfl (by kernel_rfl) hS 1 rfl rfl rfl) 1 rfl rfl rfl rfl ?_
  intro w16 hS
  refine seq_do hA rfl rfl rfl (does_assign rfl) ?_
  intro a hA
  refine seq_end ?_
  refine hK15 _ _ ?_
  refine wp_ret ?_
  refine hret _ _ ?_
  refine ends (v := .tuple #[.agg #[.bool false, .slice none 0 0, .slice none 0 0, .bool false, .slice none 0 0, .slice none 0 0], .int .i64 (want2 p q)]) hA rfl (.cons (res_cell hS isS_26 rfl 1 rfl (cs := [.bool false, .slice none 0 0, .slice none 0 0, .bool false, .slice none 0 0, .slice none 0 0]) rfl rfl) (.cons (res_tmp rfl) .nil)) rfl ?_
  rw [bitQ_err hw]
  exact ⟨none, 0, none, 0, none, 0, none, 0, rfl, ⟨(Sc.none _), (Sc.none _), (Sc.none _), (Sc.none _)⟩, hS.bel⟩
theorem bitW_any {w : World} {b1 b2 : Bool} {x1 x2 : Nat} {a1 a2 a3 a4 : Option Addr} {ac1 ac2 ac3 ac4 : Nat} (ha : Nm w (Q6.whole b1 x1) a1 ac1 a2 ac2 a3 ac3 a4 ac4) (hl : LenQ (Q6.whole b1 x1)) {u1 u2 u3 u4 : Option Addr} {uc1 uc2 uc3 uc4 : Nat} (hu : Nm w (Q6.whole b2 x2) u1 uc1 u2 uc2 u3 uc3 u4 uc4) (hm : LenQ (Q6.whole b2 x2)) {F : FuncId} {fop : Nat → Nat → Nat} {fb : Bool → Bool → Bool} (hF : Fun2 F fop) (hB : BOp fop fb) (hw : want2 (Q6.whole b1 x1) (Q6.whole b2 x2) = 0) (hx1 : (words x1).length ≤ 512) (hb1 : b1.toNat ≤ x1) (hx2 : (words x2).length ≤ 512) (hb2 : b2.toNat ≤ x2) : Calls Try.prog 22 #[.func (.func F) #[] #[], numV (Q6.whole b1 x1) a1 ac1 a2 ac2 a3 ac3 a4 ac4, numV (Q6.whole b2 x2) u1 uc1 u2 uc2 u3 uc3 u4 uc4] w (AnsN w (bitQ fop fb (Q6.whole b1 x1) (Q6.whole b2 x2))) := by
  have hS : St w w [] [(u4, [1]), (u3, []), (u2, [1]), (u1, words x2), (a4, [1]), (a3, []), (a2, [1]), (a1, words x1)] [] := ((((((((St.start w).addR ha.s1.rd).addR ha.s2.rd).addR ha.s3.rd).addR ha.s4.rd).addR hu.s1.rd).addR hu.s2.rd).addR hu.s3.rd).addR hu.s4.rd
  refine walk_of (l := [(0, .func (.func F) #[] #[]), (1, .agg #[.bool b1, .slice a1 ((words x1).length) ac1, .slice a2 1 ac2, .bool false, .slice a3 0 ac3, .slice a4 1 ac4]), (2, .agg #[.bool b2, .slice u1 ((words x2).length) uc1, .slice u2 1 uc2, .bool false, .slice u3 0 uc3, .slice u4 1 uc4])]) Try.func22 rfl Try.ntmps22 rfl rfl ?_
  intro Q hret hnorm hP a hA
  refine wp_seq_k (fun K1 hK1 => ?_)
  refine wp_region_lit ?_
  refine seq_new (vs := [.bool b1, .slice a1 ((words x1).length) ac1, .slice a2 1 ac2, .bool false, .slice a3 0 ac3, .slice a4 1 ac4]) (t := 26) hA hS rfl rfl rfl (fun g => .pointer (some ⟨g, 0, none⟩)) (does_box rfl rfl) rfl ?_
  intro g2 w3 hS a hA
  refine seq_new (vs := [.bool b2, .slice u1 ((words x2).length) uc1, .slice u2 1 uc2, .bool false, .slice u3 0 uc3, .slice u4 1 uc4]) (t := 26) hA hS rfl rfl rfl (fun g => .pointer (some ⟨g, 0, none⟩)) (does_box rfl rfl) rfl ?_
  intro g4 w5 hS a hA
  refine seq_new (vs := [.bool false, .slice none 0 0, .slice none 0 0, .bool false, .slice none 0 0, .slice none 0 0]) (t := 26) hA hS rfl rfl rfl (fun g => .pointer (some ⟨g, 0, none⟩)) (does_alloc (z := .agg #[.bool false, .slice none 0 0, .slice none 0 0, .bool false, .slice none 0 0, .slice none 0 0]) (by kernel_rfl) rfl) rfl ?_
  intro g6 w7 hS a hA
  refine seq_do hA rfl rfl rfl (does_assign rfl) ?_
  intro a hA
  refine seq_end ?_
  refine hK1 _ _ ?_
  refine wp_seq_k (fun K8 hK8 => ?_)
  refine wp_seq_k (fun K9 hK9 => ?_)
  refine wp_region_lit ?_
  refine seq_do (v := .agg #[.bool b1, .slice a1 ((words x1).length) ac1, .slice a2 1 ac2, .bool false, .slice a3 0 ac3, .slice a4 1 ac4]) hA rfl rfl rfl (does_loadS hS isS_26 rfl 2 rfl (cs := [.bool b1, .slice a1 ((words x1).length) ac1, .slice a2 1 ac2, .bool false, .slice a3 0 ac3, .slice a4 1 ac4]) rfl rfl) ?_
  intro a hA
  refine seq_do (v := .agg #[.bool b2, .slice u1 ((words x2).length) uc1, .slice u2 1 uc2, .bool false, .slice u3 0 uc3, .slice u4 1 uc4]) hA rfl rfl rfl (does_loadS hS isS_26 rfl 1 rfl (cs := [.bool b2, .slice u1 ((words x2).length) uc1, .slice u2 1 uc2, .bool false, .slice u3 0 uc3, .slice u4 1 uc4]) rfl rfl) ?_
  intro a hA
  refine seq_new (vs := [.bool b1, .slice a1 ((words x1).length) ac1, .slice a2 1 ac2, .bool false, .slice a3 0 ac3, .slice a4 1 ac4, .bool b2, .slice u1 ((words x2).length) uc1, .slice u2 1 uc2, .bool false, .slice u3 0 uc3, .slice u4 1 uc4]) (t := 26) hA hS rfl rfl rfl (fun g => .slice (some ⟨g, 0, none⟩) 2 2) (does_buildSlice rfl (by kernel_rfl)) rfl ?_
  intro g10 w11 hS a hA
  refine seq_call hA rfl rfl rfl (enters_func  rfl rfl (fun w => by kernel_rfl)) (want2_any (show Nm _ (Q6.whole b1 x1) a1 ac1 a2 ac2 a3 ac3 a4 ac4 from ⟨⟨(hS.rd 7 rfl), ha.s1.nil, ha.s1.cap⟩, ⟨(hS.rd 6 rfl), ha.s2.nil, ha.s2.cap⟩, ⟨(hS.rd 5 rfl), ha.s3.nil, ha.s3.cap⟩, ⟨(hS.rd 4 rfl), ha.s4.nil, ha.s4.cap⟩⟩) hl (show Nm _ (Q6.whole b2 x2) u1 uc1 u2 uc2 u3 uc3 u4 uc4 from ⟨⟨(hS.rd 3 rfl), hu.s1.nil, hu.s1.cap⟩, ⟨(hS.rd 2 rfl), hu.s2.nil, hu.s2.cap⟩, ⟨(hS.rd 1 rfl), hu.s3.nil, hu.s3.cap⟩, ⟨(hS.rd 0 rfl), hu.s4.nil, hu.s4.cap⟩⟩) hm (hS.blk 0 rfl) hw) ?_
  rintro _ w13 ⟨rfl, hb12⟩
  replace hS := hS.call hb12
  refine ⟨_, rfl, ?_⟩
  intro a hA
  refine seq_do hA rfl rfl rfl (does_assign rfl) ?_
  intro a hA
  refine seq_end ?_
  refine hK9 _ _ ?_
  refine wp_seq_k (fun K14 hK14 => ?_)
  refine wp_region_lit ?_
  refine seq_do hA rfl rfl rfl (does_move rfl) ?_
  intro a hA
  refine seq_do (v := .bool false) hA rfl rfl rfl (does_bin rfl rfl (fun w => by kernel_rfl)) ?_
  intro a hA
  refine seq_end ?_
  refine hK14 _ _ ?_
  refine wp_cond_false (hA.ev rfl) ?_
  refine wp_skip ?_
  refine hK8 _ _ ?_
  refine wp_seq_k (fun K15 hK15 => ?_)
  refine wp_draw (S := fun w1 => St w w1 [(g10, [.bool b1, .slice a1 ((words x1).length) ac1, .slice a2 1 ac2, .bool false, .slice a3 0 ac3, .slice a4 1 ac4, .bool b2, .slice u1 ((words x2).length) uc1, .slice u2 1 uc2, .bool false, .slice u3 0 uc3, .slice u4 1 uc4]), (g4, [.bool b2, .slice u1 ((words x2).length) uc1, .slice u2 1 uc2, .bool false, .slice u3 0 uc3, .slice u4 1 uc4]), (g2, [.bool b1, .slice a1 ((words x1).length) ac1, .slice a2 1 ac2, .bool false, .slice a3 0 ac3, .slice a4 1 ac4])] [(u4, [1]), (u3, []), (u2, [1]), (u1, words x2), (a4, [1]), (a3, []), (a2, [1]), (a1, words x1)] []) (by kernel_rfl) ?_
  replace hS := hS.drew
  refine any_take (v := .agg #[.bool b1, .slice a1 ((words x1).length) ac1, .slice a2 1 ac2, .bool false, .slice a3 0 ac3, .slice a4 1 ac4]) hA 0 rfl rfl rfl rfl (by kernel_rfl) (by kernel_rfl) (by kernel_rfl) (fun c a w h => hP c a _ _ w h) (hS.part (.cons_cons _ (.cons _ (.cons_cons _ (.cons_cons _ .slnil)))) ⟨⟨0, rfl⟩, ⟨⟨1, rfl⟩, ⟨⟨2, rfl⟩, ⟨⟨3, rfl⟩, ⟨⟨4, rfl⟩, ⟨⟨5, rfl⟩, ⟨⟨6, rfl⟩, ⟨⟨7, rfl⟩, trivial⟩⟩⟩⟩⟩⟩⟩⟩ .slnil) (fun w1 hS => does_loadS hS isS_26 rfl 2 rfl (cs := [.bool b1, .slice a1 ((words x1).length) ac1, .slice a2 1 ac2, .bool false, .slice a3 0 ac3, .slice a4 1 ac4]) rfl rfl) ?_
  intro a hA
  refine any_take hA 2 rfl rfl rfl rfl (by kernel_rfl) (by kernel_rfl) (by kernel_rfl) (fun c a w h => hP c a _ _ w h) (hS.part (.cons_cons _ (.cons _ (.cons_cons _ (.cons_cons _ .slnil)))) ⟨⟨0, rfl⟩, ⟨⟨1, rfl⟩, ⟨⟨2, rfl⟩, ⟨⟨3, rfl⟩, ⟨⟨4, rfl⟩, ⟨⟨5, rfl⟩, ⟨⟨6, rfl⟩, ⟨⟨7, rfl⟩, trivial⟩⟩⟩⟩⟩⟩⟩⟩ .slnil) (fun w1 hS => does_move rfl) ?_
  intro a hA
  refine any_take (v := .agg #[.bool b2, .slice u1 ((words x2).length) uc1, .slice u2 1 uc2, .bool false, .slice u3 0 uc3, .slice u4 1 uc4]) hA 3 rfl rfl rfl rfl (by kernel_rfl) (by kernel_rfl) (by kernel_rfl) (fun c a w h => hP c a _ _ w h) (hS.part (.cons_cons _ (.cons _ (.cons_cons _ (.cons_cons _ .slnil)))) ⟨⟨0, rfl⟩, ⟨⟨1, rfl⟩, ⟨⟨2, rfl⟩, ⟨⟨3, rfl⟩, ⟨⟨4, rfl⟩, ⟨⟨5, rfl⟩, ⟨⟨6, rfl⟩, ⟨⟨7, rfl⟩, trivial⟩⟩⟩⟩⟩⟩⟩⟩ .slnil) (fun w1 hS => does_loadS hS isS_26 rfl 1 rfl (cs := [.bool b2, .slice u1 ((words x2).length) uc1, .slice u2 1 uc2, .bool false, .slice u3 0 uc3, .slice u4 1 uc4]) rfl rfl) ?_
  intro a hA
  refine any_one (by kernel_rfl) (op_call hA 1 rfl rfl rfl rfl (enters_func  rfl rfl (fun w => by kernel_rfl)) (rowOf_any (show Nm _ (Q6.whole b1 x1) a1 ac1 a2 ac2 a3 ac3 a4 ac4 from ⟨⟨(hS.rd 7 rfl), ha.s1.nil, ha.s1.cap⟩, ⟨(hS.rd 6 rfl), ha.s2.nil, ha.s2.cap⟩, ⟨(hS.rd 5 rfl), ha.s3.nil, ha.s3.cap⟩, ⟨(hS.rd 4 rfl), ha.s4.nil, ha.s4.cap⟩⟩) hx1 hb1) ?_)
  rintro _ w20 ⟨ro16, rc17, rfl, hs18, hb19⟩
  replace hS := hS.call hb19
  replace hS := hS.addR hs18.rd
  refine ⟨_, rfl, (hS.part (.cons_cons _ (.cons _ (.cons_cons _ (.cons_cons _ .slnil)))) ⟨⟨1, rfl⟩, ⟨⟨2, rfl⟩, ⟨⟨3, rfl⟩, ⟨⟨4, rfl⟩, ⟨⟨5, rfl⟩, ⟨⟨6, rfl⟩, ⟨⟨7, rfl⟩, ⟨⟨8, rfl⟩, trivial⟩⟩⟩⟩⟩⟩⟩⟩ .slnil), ?_⟩
  intro a hA
  refine any_one (by kernel_rfl) (op_call hA 4 rfl rfl rfl rfl (enters_func  rfl rfl (fun w => by kernel_rfl)) (rowOf_any (show Nm _ (Q6.whole b2 x2) u1 uc1 u2 uc2 u3 uc3 u4 uc4 from ⟨⟨(hS.rd 4 rfl), hu.s1.nil, hu.s1.cap⟩, ⟨(hS.rd 3 rfl), hu.s2.nil, hu.s2.cap⟩, ⟨(hS.rd 2 rfl), hu.s3.nil, hu.s3.cap⟩, ⟨(hS.rd 1 rfl), hu.s4.nil, hu.s4.cap⟩⟩) hx2 hb2) ?_)
  rintro _ w25 ⟨ro21, rc22, rfl, hs23, hb24⟩
  replace hS := hS.call hb24
  replace hS := hS.addR hs23.rd
  refine ⟨_, rfl, (hS.part (.cons_cons _ (.cons _ (.cons_cons _ (.cons_cons _ .slnil)))) ⟨⟨2, rfl⟩, ⟨⟨3, rfl⟩, ⟨⟨4, rfl⟩, ⟨⟨5, rfl⟩, ⟨⟨6, rfl⟩, ⟨⟨7, rfl⟩, ⟨⟨8, rfl⟩, ⟨⟨9, rfl⟩, trivial⟩⟩⟩⟩⟩⟩⟩⟩ .slnil), ?_⟩
  intro a hA
  refine any_one (by kernel_rfl) (op_call hA 5 rfl rfl rfl rfl (enters_func  rfl rfl (fun w => by kernel_rfl)) (combined_any hF hB (hS.rd 1 rfl) (hS.rd 0 rfl) (Nat.le_trans (sub_len hx1) (by decide)) (Nat.le_trans (sub_len hx2) (by decide))) ?_)
  rintro _ w30 ⟨ro26, rc27, rfl, hs28, hb29⟩
  replace hS := hS.call hb29
  replace hS := hS.addR hs28.rd
  refine ⟨_, rfl, (hS.part (.cons_cons _ (.cons _ (.cons_cons _ (.cons_cons _ .slnil)))) ⟨⟨3, rfl⟩, ⟨⟨4, rfl⟩, ⟨⟨5, rfl⟩, ⟨⟨6, rfl⟩, ⟨⟨7, rfl⟩, ⟨⟨8, rfl⟩, ⟨⟨9, rfl⟩, ⟨⟨10, rfl⟩, trivial⟩⟩⟩⟩⟩⟩⟩⟩ .slnil), ?_⟩
  intro a hA
  refine any_one (by kernel_rfl) (op_call hA 6 rfl rfl rfl rfl (enters_func  rfl rfl (fun w => by kernel_rfl)) (number_any (b := (fb b1 b2)) ⟨(hS.rd 0 rfl), hs28.nil, hs28.cap⟩ (putY_len hB (sub_len hx1) (sub_len hx2))) ?_)
  rintro _ w34 ⟨p31_1, p31_c1, p31_2, p31_c2, p31_3, p31_c3, p31_4, p31_c4, rfl, hn32, hb33⟩
  replace hS := hS.call hb33
  replace hS := hS.addR hn32.s1.rd
  replace hS := hS.addR hn32.s2.rd
  replace hS := hS.addR hn32.s3.rd
  replace hS := hS.addR hn32.s4.rd
  refine ⟨_, rfl, (hS.part (.cons_cons _ (.cons _ (.cons_cons _ (.cons_cons _ .slnil)))) ⟨⟨7, rfl⟩, ⟨⟨8, rfl⟩, ⟨⟨9, rfl⟩, ⟨⟨10, rfl⟩, ⟨⟨11, rfl⟩, ⟨⟨12, rfl⟩, ⟨⟨13, rfl⟩, ⟨⟨14, rfl⟩, trivial⟩⟩⟩⟩⟩⟩⟩⟩ .slnil), ?_⟩
  intro a hA
  refine any_take (v := .agg #[.bool ((bigS ((fb b1 b2)) (putY fop fb b1 (x1 - b1.toNat) b2 (x2 - b2.toNat) + ((fb b1 b2)).toNat)).1.b1), .slice p31_1 (((bigS ((fb b1 b2)) (putY fop fb b1 (x1 - b1.toNat) b2 (x2 - b2.toNat) + ((fb b1 b2)).toNat)).1.t1).length) p31_c1, .slice p31_2 (((bigS ((fb b1 b2)) (putY fop fb b1 (x1 - b1.toNat) b2 (x2 - b2.toNat) + ((fb b1 b2)).toNat)).1.q1).length) p31_c2, .bool ((bigS ((fb b1 b2)) (putY fop fb b1 (x1 - b1.toNat) b2 (x2 - b2.toNat) + ((fb b1 b2)).toNat)).1.b2), .slice p31_3 (((bigS ((fb b1 b2)) (putY fop fb b1 (x1 - b1.toNat) b2 (x2 - b2.toNat) + ((fb b1 b2)).toNat)).1.t2).length) p31_c3, .slice p31_4 (((bigS ((fb b1 b2)) (putY fop fb b1 (x1 - b1.toNat) b2 (x2 - b2.toNat) + ((fb b1 b2)).toNat)).1.q2).length) p31_c4]) hA 7 rfl rfl rfl rfl (by kernel_rfl) (by kernel_rfl) (by kernel_rfl) (fun c a w h => hP c a _ _ w h) (hS.part (.cons_cons _ (.cons _ (.cons_cons _ (.cons_cons _ .slnil)))) ⟨⟨7, rfl⟩, ⟨⟨8, rfl⟩, ⟨⟨9, rfl⟩, ⟨⟨10, rfl⟩, ⟨⟨11, rfl⟩, ⟨⟨12, rfl⟩, ⟨⟨13, rfl⟩, ⟨⟨14, rfl⟩, trivial⟩⟩⟩⟩⟩⟩⟩⟩ .slnil) (fun w1 hS => does_extract (vs := [.agg #[.bool ((bigS ((fb b1 b2)) (putY fop fb b1 (x1 - b1.toNat) b2 (x2 - b2.toNat) + ((fb b1 b2)).toNat)).1.b1), .slice p31_1 (((bigS ((fb b1 b2)) (putY fop fb b1 (x1 - b1.toNat) b2 (x2 - b2.toNat) + ((fb b1 b2)).toNat)).1.t1).length) p31_c1, .slice p31_2 (((bigS ((fb b1 b2)) (putY fop fb b1 (x1 - b1.toNat) b2 (x2 - b2.toNat) + ((fb b1 b2)).toNat)).1.q1).length) p31_c2, .bool ((bigS ((fb b1 b2)) (putY fop fb b1 (x1 - b1.toNat) b2 (x2 - b2.toNat) + ((fb b1 b2)).toNat)).1.b2), .slice p31_3 (((bigS ((fb b1 b2)) (putY fop fb b1 (x1 - b1.toNat) b2 (x2 - b2.toNat) + ((fb b1 b2)).toNat)).1.t2).length) p31_c3, .slice p31_4 (((bigS ((fb b1 b2)) (putY fop fb b1 (x1 - b1.toNat) b2 (x2 - b2.toNat) + ((fb b1 b2)).toNat)).1.q2).length) p31_c4], .int .i64 ((bigS ((fb b1 b2)) (putY fop fb b1 (x1 - b1.toNat) b2 (x2 - b2.toNat) + ((fb b1 b2)).toNat)).2)]) rfl rfl) ?_
  intro a hA
  refine any_take (v := .int .i64 ((bigS ((fb b1 b2)) (putY fop fb b1 (x1 - b1.toNat) b2 (x2 - b2.toNat) + ((fb b1 b2)).toNat)).2)) hA 8 rfl rfl rfl rfl (by kernel_rfl) (by kernel_rfl) (by kernel_rfl) (fun c a w h => hP c a _ _ w h) (hS.part (.cons_cons _ (.cons _ (.cons_cons _ (.cons_cons _ .slnil)))) ⟨⟨7, rfl⟩, ⟨⟨8, rfl⟩, ⟨⟨9, rfl⟩, ⟨⟨10, rfl⟩, ⟨⟨11, rfl⟩, ⟨⟨12, rfl⟩, ⟨⟨13, rfl⟩, ⟨⟨14, rfl⟩, trivial⟩⟩⟩⟩⟩⟩⟩⟩ .slnil) (fun w1 hS => does_extract (vs := [.agg #[.bool ((bigS ((fb b1 b2)) (putY fop fb b1 (x1 - b1.toNat) b2 (x2 - b2.toNat) + ((fb b1 b2)).toNat)).1.b1), .slice p31_1 (((bigS ((fb b1 b2)) (putY fop fb b1 (x1 - b1.toNat) b2 (x2 - b2.toNat) + ((fb b1 b2)).toNat)).1.t1).length) p31_c1, .slice p31_2 (((bigS ((fb b1 b2)) (putY fop fb b1 (x1 - b1.toNat) b2 (x2 - b2.toNat) + ((fb b1 b2)).toNat)).1.q1).length) p31_c2, .bool ((bigS ((fb b1 b2)) (putY fop fb b1 (x1 - b1.toNat) b2 (x2 - b2.toNat) + ((fb b1 b2)).toNat)).1.b2), .slice p31_3 (((bigS ((fb b1 b2)) (putY fop fb b1 (x1 - b1.toNat) b2 (x2 - b2.toNat) + ((fb b1 b2)).toNat)).1.t2).length) p31_c3, .slice p31_4 (((bigS ((fb b1 b2)) (putY fop fb b1 (x1 - b1.toNat) b2 (x2 - b2.toNat) + ((fb b1 b2)).toNat)).1.q2).length) p31_c4], .int .i64 ((bigS ((fb b1 b2)) (putY fop fb b1 (x1 - b1.toNat) b2 (x2 - b2.toNat) + ((fb b1 b2)).toNat)).2)]) rfl rfl) ?_
  intro a hA
  refine any_one (by kernel_rfl) (op_store (us := [.bool ((bigS ((fb b1 b2)) (putY fop fb b1 (x1 - b1.toNat) b2 (x2 - b2.toNat) + ((fb b1 b2)).toNat)).1.b1), .slice p31_1 (((bigS ((fb b1 b2)) (putY fop fb b1 (x1 - b1.toNat) b2 (x2 - b2.toNat) + ((fb b1 b2)).toNat)).1.t1).length) p31_c1, .slice p31_2 (((bigS ((fb b1 b2)) (putY fop fb b1 (x1 - b1.toNat) b2 (x2 - b2.toNat) + ((fb b1 b2)).toNat)).1.q1).length) p31_c2, .bool ((bigS ((fb b1 b2)) (putY fop fb b1 (x1 - b1.toNat) b2 (x2 - b2.toNat) + ((fb b1 b2)).toNat)).1.b2), .slice p31_3 (((bigS ((fb b1 b2)) (putY fop fb b1 (x1 - b1.toNat) b2 (x2 - b2.toNat) + ((fb b1 b2)).toNat)).1.t2).length) p31_c3, .slice p31_4 (((bigS ((fb b1 b2)) (putY fop fb b1 (x1 - b1.toNat) b2 (x2 - b2.toNat) + ((fb b1 b2)).toNat)).1.q2).length) p31_c4]) hA hS 9 rfl rfl rfl (sets_store (cs := [.bool ((bigS ((fb b1 b2)) (putY fop fb b1 (x1 - b1.toNat) b2 (x2 - b2.toNat) + ((fb b1 b2)).toNat)).1.b1), .slice p31_1 (((bigS ((fb b1 b2)) (putY fop fb b1 (x1 - b1.toNat) b2 (x2 - b2.toNat) + ((fb b1 b2)).toNat)).1.t1).length) p31_c1, .slice p31_2 (((bigS ((fb b1 b2)) (putY fop fb b1 (x1 - b1.toNat) b2 (x2 - b2.toNat) + ((fb b1 b2)).toNat)).1.q1).length) p31_c2, .bool ((bigS ((fb b1 b2)) (putY fop fb b1 (x1 - b1.toNat) b2 (x2 - b2.toNat) + ((fb b1 b2)).toNat)).1.b2), .slice p31_3 (((bigS ((fb b1 b2)) (putY fop fb b1 (x1 - b1.toNat) b2 (x2 - b2.toNat) + ((fb b1 b2)).toNat)).1.t2).length) p31_c3, .slice p31_4 (((bigS ((fb b1 b2)) (putY fop fb b1 (x1 - b1.toNat) b2 (x2 - b2.toNat) + ((fb b1 b2)).toNat)).1.q2).length) p31_c4]) rfl rfl rfl (by kernel_rfl) hS 1 rfl rfl rfl) 1 rfl rfl rfl rfl ?_)
  intro w35 hS
  refine ⟨(hS.part (.cons_cons _ (.cons _ (.cons_cons _ (.cons_cons _ .slnil)))) ⟨⟨7, rfl⟩, ⟨⟨8, rfl⟩, ⟨⟨9, rfl⟩, ⟨⟨10, rfl⟩, ⟨⟨11, rfl⟩, ⟨⟨12, rfl⟩, ⟨⟨13, rfl⟩, ⟨⟨14, rfl⟩, trivial⟩⟩⟩⟩⟩⟩⟩⟩ .slnil), ?_⟩
  refine any_take hA 10 rfl rfl rfl rfl (by kernel_rfl) (by kernel_rfl) (by kernel_rfl) (fun c a w h => hP c a _ _ w h) (hS.part (.cons_cons _ (.cons _ (.cons_cons _ (.cons_cons _ .slnil)))) ⟨⟨7, rfl⟩, ⟨⟨8, rfl⟩, ⟨⟨9, rfl⟩, ⟨⟨10, rfl⟩, ⟨⟨11, rfl⟩, ⟨⟨12, rfl⟩, ⟨⟨13, rfl⟩, ⟨⟨14, rfl⟩, trivial⟩⟩⟩⟩⟩⟩⟩⟩ .slnil) (fun w1 hS => does_assign rfl) ?_
  intro a hA
  refine any_end (by kernel_rfl) ?_
  refine hK15 _ _ ?_
  refine wp_ret ?_
  refine hret _ _ ?_
  refine ends (v := .tuple #[.agg #[.bool ((bigS ((fb b1 b2)) (putY fop fb b1 (x1 - b1.toNat) b2 (x2 - b2.toNat) + ((fb b1 b2)).toNat)).1.b1), .slice p31_1 (((bigS ((fb b1 b2)) (putY fop fb b1 (x1 - b1.toNat) b2 (x2 - b2.toNat) + ((fb b1 b2)).toNat)).1.t1).length) p31_c1, .slice p31_2 (((bigS ((fb b1 b2)) (putY fop fb b1 (x1 - b1.toNat) b2 (x2 - b2.toNat) + ((fb b1 b2)).toNat)).1.q1).length) p31_c2, .bool ((bigS ((fb b1 b2)) (putY fop fb b1 (x1 - b1.toNat) b2 (x2 - b2.toNat) + ((fb b1 b2)).toNat)).1.b2), .slice p31_3 (((bigS ((fb b1 b2)) (putY fop fb b1 (x1 - b1.toNat) b2 (x2 - b2.toNat) + ((fb b1 b2)).toNat)).1.t2).length) p31_c3, .slice p31_4 (((bigS ((fb b1 b2)) (putY fop fb b1 (x1 - b1.toNat) b2 (x2 - b2.toNat) + ((fb b1 b2)).toNat)).1.q2).length) p31_c4], .int .i64 ((bigS ((fb b1 b2)) (putY fop fb b1 (x1 - b1.toNat) b2 (x2 - b2.toNat) + ((fb b1 b2)).toNat)).2)]) hA rfl (.cons (res_cell hS isS_26 rfl 1 rfl (cs := [.bool ((bigS ((fb b1 b2)) (putY fop fb b1 (x1 - b1.toNat) b2 (x2 - b2.toNat) + ((fb b1 b2)).toNat)).1.b1), .slice p31_1 (((bigS ((fb b1 b2)) (putY fop fb b1 (x1 - b1.toNat) b2 (x2 - b2.toNat) + ((fb b1 b2)).toNat)).1.t1).length) p31_c1, .slice p31_2 (((bigS ((fb b1 b2)) (putY fop fb b1 (x1 - b1.toNat) b2 (x2 - b2.toNat) + ((fb b1 b2)).toNat)).1.q1).length) p31_c2, .bool ((bigS ((fb b1 b2)) (putY fop fb b1 (x1 - b1.toNat) b2 (x2 - b2.toNat) + ((fb b1 b2)).toNat)).1.b2), .slice p31_3 (((bigS ((fb b1 b2)) (putY fop fb b1 (x1 - b1.toNat) b2 (x2 - b2.toNat) + ((fb b1 b2)).toNat)).1.t2).length) p31_c3, .slice p31_4 (((bigS ((fb b1 b2)) (putY fop fb b1 (x1 - b1.toNat) b2 (x2 - b2.toNat) + ((fb b1 b2)).toNat)).1.q2).length) p31_c4]) rfl rfl) (.cons (res_tmp rfl) .nil)) rfl ?_
  rw [bitQ_whole hw]
  exact ⟨p31_1, p31_c1, p31_2, p31_c2, p31_3, p31_c3, p31_4, p31_c4, rfl, ⟨⟨(hS.rd 3 rfl), hn32.s1.nil, hn32.s1.cap⟩, ⟨(hS.rd 2 rfl), hn32.s2.nil, hn32.s2.cap⟩, ⟨(hS.rd 1 rfl), hn32.s3.nil, hn32.s3.cap⟩, ⟨(hS.rd 0 rfl), hn32.s4.nil, hn32.s4.cap⟩⟩, hS.bel⟩
/-- A number is told by its parts: whole, or refused. -/
theorem wholeOf {q : Q6} {w : World} {a1 a2 a3 a4 : Option Addr} {ac1 ac2 ac3 ac4 : Nat} (ha : Nm w q a1 ac1 a2 ac2 a3 ac3 a4 ac4) (h : wholeQ q = true) : ∃ b x, q = Q6.whole b x ∧ (words x).length ≤ 512 ∧ b.toNat ≤ x := by
  obtain ⟨x, h1, h2, h3⟩ := whole_form ha.s1.rd.dig ha.s4.rd.dig h
  exact ⟨q.b1, x, h1, h2, h3⟩
theorem bitN_any {w : World} {p q : Q6} {a1 a2 a3 a4 : Option Addr} {ac1 ac2 ac3 ac4 : Nat} (ha : Nm w p a1 ac1 a2 ac2 a3 ac3 a4 ac4) (hl : LenQ p) {u1 u2 u3 u4 : Option Addr} {uc1 uc2 uc3 uc4 : Nat} (hu : Nm w q u1 uc1 u2 uc2 u3 uc3 u4 uc4) (hm : LenQ q) {F : FuncId} {fop : Nat → Nat → Nat} {fb : Bool → Bool → Bool} (hF : Fun2 F fop) (hB : BOp fop fb) : Calls Try.prog 22 #[.func (.func F) #[] #[], numV p a1 ac1 a2 ac2 a3 ac3 a4 ac4, numV q u1 uc1 u2 uc2 u3 uc3 u4 uc4] w (AnsN w (bitQ fop fb p q)) := by
  rcases want2_cases p q with ⟨hw, h1, h2⟩ | hw
  · obtain ⟨b1, x1, rfl, hx1, hb1⟩ := wholeOf ha h1
    obtain ⟨b2, x2, rfl, hx2, hb2⟩ := wholeOf hu h2
    exact bitW_any ha hl hu hm hF hB hw hx1 hb1 hx2 hb2
  · exact bitE_any ha hl hu hm hF hB hw
theorem andQ_any {w : World} {p q : Q6} {a1 a2 a3 a4 : Option Addr} {ac1 ac2 ac3 ac4 : Nat} (ha : Nm w p a1 ac1 a2 ac2 a3 ac3 a4 ac4) (hl : LenQ p) {u1 u2 u3 u4 : Option Addr} {uc1 uc2 uc3 uc4 : Nat} (hu : Nm w q u1 uc1 u2 uc2 u3 uc3 u4 uc4) (hm : LenQ q) : Calls Try.prog 6 #[numV p a1 ac1 a2 ac2 a3 ac3 a4 ac4, numV q u1 uc1 u2 uc2 u3 uc3 u4 uc4] w (AnsN w (bitQ (fun x y => x &&& y) (fun b c => b && c) p q)) := by
  have hS : St w w [] [(u4, q.q2), (u3, q.t2), (u2, q.q1), (u1, q.t1), (a4, p.q2), (a3, p.t2), (a2, p.q1), (a1, p.t1)] [] := ((((((((St.start w).addR ha.s1.rd).addR ha.s2.rd).addR ha.s3.rd).addR ha.s4.rd).addR hu.s1.rd).addR hu.s2.rd).addR hu.s3.rd).addR hu.s4.rd
  refine walk_of (l := [(0, .agg #[.bool p.b1, .slice a1 p.t1.length ac1, .slice a2 p.q1.length ac2, .bool p.b2, .slice a3 p.t2.length ac3, .slice a4 p.q2.length ac4]), (1, .agg #[.bool q.b1, .slice u1 q.t1.length uc1, .slice u2 q.q1.length uc2, .bool q.b2, .slice u3 q.t2.length uc3, .slice u4 q.q2.length uc4])]) Try.func6 rfl Try.ntmps6 rfl rfl ?_
  intro Q hret hnorm hP a hA
  refine wp_seq_k (fun K1 hK1 => ?_)
  refine wp_region_lit ?_
  refine seq_new (vs := [.bool p.b1, .slice a1 p.t1.length ac1, .slice a2 p.q1.length ac2, .bool p.b2, .slice a3 p.t2.length ac3, .slice a4 p.q2.length ac4]) (t := 26) hA hS rfl rfl rfl (fun g => .pointer (some ⟨g, 0, none⟩)) (does_box rfl rfl) rfl ?_
  intro g2 w3 hS a hA
  refine seq_new (vs := [.bool q.b1, .slice u1 q.t1.length uc1, .slice u2 q.q1.length uc2, .bool q.b2, .slice u3 q.t2.length uc3, .slice u4 q.q2.length uc4]) (t := 26) hA hS rfl rfl rfl (fun g => .pointer (some ⟨g, 0, none⟩)) (does_box rfl rfl) rfl ?_
  intro g4 w5 hS a hA
  refine seq_new (vs := [.bool false, .slice none 0 0, .slice none 0 0, .bool false, .slice none 0 0, .slice none 0 0]) (t := 26) hA hS rfl rfl rfl (fun g => .pointer (some ⟨g, 0, none⟩)) (does_alloc (z := .agg #[.bool false, .slice none 0 0, .slice none 0 0, .bool false, .slice none 0 0, .slice none 0 0]) (by kernel_rfl) rfl) rfl ?_
  intro g6 w7 hS a hA
  refine seq_do hA rfl rfl rfl (does_assign rfl) ?_
  intro a hA
  refine seq_end ?_
  refine hK1 _ _ ?_
  refine wp_seq_k (fun K8 hK8 => ?_)
  refine wp_region_lit ?_
  refine seq_do (v := .agg #[.bool p.b1, .slice a1 p.t1.length ac1, .slice a2 p.q1.length ac2, .bool p.b2, .slice a3 p.t2.length ac3, .slice a4 p.q2.length ac4]) hA rfl rfl rfl (does_loadS hS isS_26 rfl 2 rfl (cs := [.bool p.b1, .slice a1 p.t1.length ac1, .slice a2 p.q1.length ac2, .bool p.b2, .slice a3 p.t2.length ac3, .slice a4 p.q2.length ac4]) rfl rfl) ?_
  intro a hA
  refine seq_do (v := .agg #[.bool q.b1, .slice u1 q.t1.length uc1, .slice u2 q.q1.length uc2, .bool q.b2, .slice u3 q.t2.length uc3, .slice u4 q.q2.length uc4]) hA rfl rfl rfl (does_loadS hS isS_26 rfl 1 rfl (cs := [.bool q.b1, .slice u1 q.t1.length uc1, .slice u2 q.q1.length uc2, .bool q.b2, .slice u3 q.t2.length uc3, .slice u4 q.q2.length uc4]) rfl rfl) ?_
  intro a hA
  refine seq_call hA rfl rfl rfl (enters_func  rfl rfl (fun w => by kernel_rfl)) (bitN_any (show Nm _ p a1 ac1 a2 ac2 a3 ac3 a4 ac4 from ⟨⟨(hS.rd 7 rfl), ha.s1.nil, ha.s1.cap⟩, ⟨(hS.rd 6 rfl), ha.s2.nil, ha.s2.cap⟩, ⟨(hS.rd 5 rfl), ha.s3.nil, ha.s3.cap⟩, ⟨(hS.rd 4 rfl), ha.s4.nil, ha.s4.cap⟩⟩) hl (show Nm _ q u1 uc1 u2 uc2 u3 uc3 u4 uc4 from ⟨⟨(hS.rd 3 rfl), hu.s1.nil, hu.s1.cap⟩, ⟨(hS.rd 2 rfl), hu.s2.nil, hu.s2.cap⟩, ⟨(hS.rd 1 rfl), hu.s3.nil, hu.s3.cap⟩, ⟨(hS.rd 0 rfl), hu.s4.nil, hu.s4.cap⟩⟩) hm andFun and_op) ?_
  rintro _ w12 ⟨p9_1, p9_c1, p9_2, p9_c2, p9_3, p9_c3, p9_4, p9_c4, rfl, hn10, hb11⟩
  replace hS := hS.call hb11
  replace hS := hS.addR hn10.s1.rd
  replace hS := hS.addR hn10.s2.rd
  replace hS := hS.addR hn10.s3.rd
  replace hS := hS.addR hn10.s4.rd
  refine ⟨_, rfl, ?_⟩
  intro a hA
  refine seq_do (v := .agg #[.bool ((bitQ (fun x y => x &&& y) (fun b c => b && c) p q).1.b1), .slice p9_1 (((bitQ (fun x y => x &&& y) (fun b c => b && c) p q).1.t1).length) p9_c1, .slice p9_2 (((bitQ (fun x y => x &&& y) (fun b c => b && c) p q).1.q1).length) p9_c2, .bool ((bitQ (fun x y => x &&& y) (fun b c => b && c) p q).1.b2), .slice p9_3 (((bitQ (fun x y => x &&& y) (fun b c => b && c) p q).1.t2).length) p9_c3, .slice p9_4 (((bitQ (fun x y => x &&& y) (fun b c => b && c) p q).1.q2).length) p9_c4]) hA rfl rfl rfl (does_extract (vs := [.agg #[.bool ((bitQ (fun x y => x &&& y) (fun b c => b && c) p q).1.b1), .slice p9_1 (((bitQ (fun x y => x &&& y) (fun b c => b && c) p q).1.t1).length) p9_c1, .slice p9_2 (((bitQ (fun x y => x &&& y) (fun b c => b && c) p q).1.q1).length) p9_c2, .bool ((bitQ (fun x y => x &&& y) (fun b c => b && c) p q).1.b2), .slice p9_3 (((bitQ (fun x y => x &&& y) (fun b c => b && c) p q).1.t2).length) p9_c3, .slice p9_4 (((bitQ (fun x y => x &&& y) (fun b c => b && c) p q).1.q2).length) p9_c4], .int .i64 ((bitQ (fun x y => x &&& y) (fun b c => b && c) p q).2)]) rfl rfl) ?_
  intro a hA
  refine seq_do (v := .int .i64 ((bitQ (fun x y => x &&& y) (fun b c => b && c) p q).2)) hA rfl rfl rfl (does_extract (vs := [.agg #[.bool ((bitQ (fun x y => x &&& y) (fun b c => b && c) p q).1.b1), .slice p9_1 (((bitQ (fun x y => x &&& y) (fun b c => b && c) p q).1.t1).length) p9_c1, .slice p9_2 (((bitQ (fun x y => x &&& y) (fun b c => b && c) p q).1.q1).length) p9_c2, .bool ((bitQ (fun x y => x &&& y) (fun b c => b && c) p q).1.b2), .slice p9_3 (((bitQ (fun x y => x &&& y) (fun b c => b && c) p q).1.t2).length) p9_c3, .slice p9_4 (((bitQ (fun x y => x &&& y) (fun b c => b && c) p q).1.q2).length) p9_c4], .int .i64 ((bitQ (fun x y => x &&& y) (fun b c => b && c) p q).2)]) rfl rfl) ?_
  intro a hA
  refine seq_store (us := [.bool ((bitQ (fun x y => x &&& y) (fun b c => b && c) p q).1.b1), .slice p9_1 (((bitQ (fun x y => x &&& y) (fun b c => b && c) p q).1.t1).length) p9_c1, .slice p9_2 (((bitQ (fun x y => x &&& y) (fun b c => b && c) p q).1.q1).length) p9_c2, .bool ((bitQ (fun x y => x &&& y) (fun b c => b && c) p q).1.b2), .slice p9_3 (((bitQ (fun x y => x &&& y) (fun b c => b && c) p q).1.t2).length) p9_c3, .slice p9_4 (((bitQ (fun x y => x &&& y) (fun b c => b && c) p q).1.q2).length) p9_c4]) hA hS rfl rfl (sets_store (cs := [.bool ((bitQ (fun x y => x &&& y) (fun b c => b && c) p q).1.b1), .slice p9_1 (((bitQ (fun x y => x &&& y) (fun b c => b && c) p q).1.t1).length) p9_c1, .slice p9_2 (((bitQ (fun x y => x &&& y) (fun b c => b && c) p q).1.q1).length) p9_c2, .bool ((bitQ (fun x y => x &&& y) (fun b c => b && c) p q).1.b2), .slice p9_3 (((bitQ (fun x y => x &&& y) (fun b c => b && c) p q).1.t2).length) p9_c3, .slice p9_4 (((bitQ (fun x y => x &&& y) (fun b c => b && c) p q).1.q2).length) p9_c4]) rfl rfl rfl (by kernel_rfl) hS 0 rfl rfl rfl) 0 rfl rfl rfl rfl ?_
  intro w13 hS
  refine seq_do hA rfl rfl rfl (does_assign rfl) ?_
  intro a hA
  refine seq_end ?_
  refine hK8 _ _ ?_
  refine wp_ret ?_
  refine hret _ _ ?_
  refine ends (v := .tuple #[.agg #[.bool ((bitQ (fun x y => x &&& y) (fun b c => b && c) p q).1.b1), .slice p9_1 (((bitQ (fun x y => x &&& y) (fun b c => b && c) p q).1.t1).length) p9_c1, .slice p9_2 (((bitQ (fun x y => x &&& y) (fun b c => b && c) p q).1.q1).length) p9_c2, .bool ((bitQ (fun x y => x &&& y) (fun b c => b && c) p q).1.b2), .slice p9_3 (((bitQ (fun x y => x &&& y) (fun b c => b && c) p q).1.t2).length) p9_c3, .slice p9_4 (((bitQ (fun x y => x &&& y) (fun b c => b && c) p q).1.q2).length) p9_c4], .int .i64 ((bitQ (fun x y => x &&& y) (fun b c => b && c) p q).2)]) hA rfl (.cons (res_cell hS isS_26 rfl 0 rfl (cs := [.bool ((bitQ (fun x y => x &&& y) (fun b c => b && c) p q).1.b1), .slice p9_1 (((bitQ (fun x y => x &&& y) (fun b c => b && c) p q).1.t1).length) p9_c1, .slice p9_2 (((bitQ (fun x y => x &&& y) (fun b c => b && c) p q).1.q1).length) p9_c2, .bool ((bitQ (fun x y => x &&& y) (fun b c => b && c) p q).1.b2), .slice p9_3 (((bitQ (fun x y => x &&& y) (fun b c => b && c) p q).1.t2).length) p9_c3, .slice p9_4 (((bitQ (fun x y => x &&& y) (fun b c => b && c) p q).1.q2).length) p9_c4]) rfl rfl) (.cons (res_tmp rfl) .nil)) rfl ?_
  exact ⟨p9_1, p9_c1, p9_2, p9_c2, p9_3, p9_c3, p9_4, p9_c4, rfl, ⟨⟨(hS.rd 3 rfl), hn10.s1.nil, hn10.s1.cap⟩, ⟨(hS.rd 2 rfl), hn10.s2.nil, hn10.s2.cap⟩, ⟨(hS.rd 1 rfl), hn10.s3.nil, hn10.s3.cap⟩, ⟨(hS.rd 0 rfl), hn10.s4.nil, hn10.s4.cap⟩⟩, hS.bel⟩
theorem orQ_any {w : World} {p q : Q6} {a1 a2 a3 a4 : Option Addr} {ac1 ac2 ac3 ac4 : Nat} (ha : Nm w p a1 ac1 a2 ac2 a3 ac3 a4 ac4) (hl : LenQ p) {u1 u2 u3 u4 : Option Addr} {uc1 uc2 uc3 uc4 : Nat} (hu : Nm w q u1 uc1 u2 uc2 u3 uc3 u4 uc4) (hm : LenQ q) : Calls Try.prog 8 #[numV p a1 ac1 a2 ac2 a3 ac3 a4 ac4, numV q u1 uc1 u2 uc2 u3 uc3 u4 uc4] w (AnsN w (bitQ (fun x y => x ||| y) (fun b c => b || c) p q)) := by
  have hS : St w w [] [(u4, q.q2), (u3, q.t2), (u2, q.q1), (u1, q.t1), (a4, p.q2), (a3, p.t2), (a2, p.q1), (a1, p.t1)] [] := ((((((((St.start w).addR ha.s1.rd).addR ha.s2.rd).addR ha.s3.rd).addR ha.s4.rd).addR hu.s1.rd).addR hu.s2.rd).addR hu.s3.rd).addR hu.s4.rd
  refine walk_of (l := [(0, .agg #[.bool p.b1, .slice a1 p.t1.length ac1, .slice a2 p.q1.length ac2, .bool p.b2, .slice a3 p.t2.length ac3, .slice a4 p.q2.length ac4]), (1, .agg #[.bool q.b1, .slice u1 q.t1.length uc1, .slice u2 q.q1.length uc2, .bool q.b2, .slice u3 q.t2.length uc3, .slice u4 q.q2.length uc4])]) Try.func8 rfl Try.ntmps8 rfl rfl ?_
  intro Q hret hnorm hP a hA
  refine wp_seq_k (fun K1 hK1 => ?_)
  refine wp_region_lit ?_
  refine seq_new (vs := [.bool p.b1, .slice a1 p.t1.length ac1, .slice a2 p.q1.length ac2, .bool p.b2, .slice a3 p.t2.length ac3, .slice a4 p.q2.length ac4]) (t := 26) hA hS rfl rfl rfl (fun g => .pointer (some ⟨g, 0, none⟩)) (does_box rfl rfl) rfl ?_
  intro g2 w3 hS a hA
  refine seq_new (vs := [.bool q.b1, .slice u1 q.t1.length uc1, .slice u2 q.q1.length uc2, .bool q.b2, .slice u3 q.t2.length uc3, .slice u4 q.q2.length uc4]) (t := 26) hA hS rfl rfl rfl (fun g => .pointer (some ⟨g, 0, none⟩)) (does_box rfl rfl) rfl ?_
  intro g4 w5 hS a hA
  refine seq_new (vs := [.bool false, .slice none 0 0, .slice none 0 0, .bool false, .slice none 0 0, .slice none 0 0]) (t := 26) hA hS rfl rfl rfl (fun g => .pointer (some ⟨g, 0, none⟩)) (does_alloc (z := .agg #[.bool false, .slice none 0 0, .slice none 0 0, .bool false, .slice none 0 0, .slice none 0 0]) (by kernel_rfl) rfl) rfl ?_
  intro g6 w7 hS a hA
  refine seq_do hA rfl rfl rfl (does_assign rfl) ?_
  intro a hA
  refine seq_end ?_
  refine hK1 _ _ ?_
  refine wp_seq_k (fun K8 hK8 => ?_)
  refine wp_region_lit ?_
  refine seq_do (v := .agg #[.bool p.b1, .slice a1 p.t1.length ac1, .slice a2 p.q1.length ac2, .bool p.b2, .slice a3 p.t2.length ac3, .slice a4 p.q2.length ac4]) hA rfl rfl rfl (does_loadS hS isS_26 rfl 2 rfl (cs := [.bool p.b1, .slice a1 p.t1.length ac1, .slice a2 p.q1.length ac2, .bool p.b2, .slice a3 p.t2.length ac3, .slice a4 p.q2.length ac4]) rfl rfl) ?_
  intro a hA
  refine seq_do (v := .agg #[.bool q.b1, .slice u1 q.t1.length uc1, .slice u2 q.q1.length uc2, .bool q.b2, .slice u3 q.t2.length uc3, .slice u4 q.q2.length uc4]) hA rfl rfl rfl (does_loadS hS isS_26 rfl 1 rfl (cs := [.bool q.b1, .slice u1 q.t1.length uc1, .slice u2 q.q1.length uc2, .bool q.b2, .slice u3 q.t2.length uc3, .slice u4 q.q2.length uc4]) rfl rfl) ?_
  intro a hA
  refine seq_call hA rfl rfl rfl (enters_func  rfl rfl (fun w => by kernel_rfl)) (bitN_any (show Nm _ p a1 ac1 a2 ac2 a3 ac3 a4 ac4 from ⟨⟨(hS.rd 7 rfl), ha.s1.nil, ha.s1.cap⟩, ⟨(hS.rd 6 rfl), ha.s2.nil, ha.s2.cap⟩, ⟨(hS.rd 5 rfl), ha.s3.nil, ha.s3.cap⟩, ⟨(hS.rd 4 rfl), ha.s4.nil, ha.s4.cap⟩⟩) hl (show Nm _ q u1 uc1 u2 uc2 u3 uc3 u4 uc4 from ⟨⟨(hS.rd 3 rfl), hu.s1.nil, hu.s1.cap⟩, ⟨(hS.rd 2 rfl), hu.s2.nil, hu.s2.cap⟩, ⟨(hS.rd 1 rfl), hu.s3.nil, hu.s3.cap⟩, ⟨(hS.rd 0 rfl), hu.s4.nil, hu.s4.cap⟩⟩) hm orFun or_op) ?_
  rintro _ w12 ⟨p9_1, p9_c1, p9_2, p9_c2, p9_3, p9_c3, p9_4, p9_c4, rfl, hn10, hb11⟩
  replace hS := hS.call hb11
  replace hS := hS.addR hn10.s1.rd
  replace hS := hS.addR hn10.s2.rd
  replace hS := hS.addR hn10.s3.rd
  replace hS := hS.addR hn10.s4.rd
  refine ⟨_, rfl, ?_⟩
  intro a hA
  refine seq_do (v := .agg #[.bool ((bitQ (fun x y => x ||| y) (fun b c => b || c) p q).1.b1), .slice p9_1 (((bitQ (fun x y => x ||| y) (fun b c => b || c) p q).1.t1).length) p9_c1, .slice p9_2 (((bitQ (fun x y => x ||| y) (fun b c => b || c) p q).1.q1).length) p9_c2, .bool ((bitQ (fun x y => x ||| y) (fun b c => b || c) p q).1.b2), .slice p9_3 (((bitQ (fun x y => x ||| y) (fun b c => b || c) p q).1.t2).length) p9_c3, .slice p9_4 (((bitQ (fun x y => x ||| y) (fun b c => b || c) p q).1.q2).length) p9_c4]) hA rfl rfl rfl (does_extract (vs := [.agg #[.bool ((bitQ (fun x y => x ||| y) (fun b c => b || c) p q).1.b1), .slice p9_1 (((bitQ (fun x y => x ||| y) (fun b c => b || c) p q).1.t1).length) p9_c1, .slice p9_2 (((bitQ (fun x y => x ||| y) (fun b c => b || c) p q).1.q1).length) p9_c2, .bool ((bitQ (fun x y => x ||| y) (fun b c => b || c) p q).1.b2), .slice p9_3 (((bitQ (fun x y => x ||| y) (fun b c => b || c) p q).1.t2).length) p9_c3, .slice p9_4 (((bitQ (fun x y => x ||| y) (fun b c => b || c) p q).1.q2).length) p9_c4], .int .i64 ((bitQ (fun x y => x ||| y) (fun b c => b || c) p q).2)]) rfl rfl) ?_
  intro a hA
  refine seq_do (v := .int .i64 ((bitQ (fun x y => x ||| y) (fun b c => b || c) p q).2)) hA rfl rfl rfl (does_extract (vs := [.agg #[.bool ((bitQ (fun x y => x ||| y) (fun b c => b || c) p q).1.b1), .slice p9_1 (((bitQ (fun x y => x ||| y) (fun b c => b || c) p q).1.t1).length) p9_c1, .slice p9_2 (((bitQ (fun x y => x ||| y) (fun b c => b || c) p q).1.q1).length) p9_c2, .bool ((bitQ (fun x y => x ||| y) (fun b c => b || c) p q).1.b2), .slice p9_3 (((bitQ (fun x y => x ||| y) (fun b c => b || c) p q).1.t2).length) p9_c3, .slice p9_4 (((bitQ (fun x y => x ||| y) (fun b c => b || c) p q).1.q2).length) p9_c4], .int .i64 ((bitQ (fun x y => x ||| y) (fun b c => b || c) p q).2)]) rfl rfl) ?_
  intro a hA
  refine seq_store (us := [.bool ((bitQ (fun x y => x ||| y) (fun b c => b || c) p q).1.b1), .slice p9_1 (((bitQ (fun x y => x ||| y) (fun b c => b || c) p q).1.t1).length) p9_c1, .slice p9_2 (((bitQ (fun x y => x ||| y) (fun b c => b || c) p q).1.q1).length) p9_c2, .bool ((bitQ (fun x y => x ||| y) (fun b c => b || c) p q).1.b2), .slice p9_3 (((bitQ (fun x y => x ||| y) (fun b c => b || c) p q).1.t2).length) p9_c3, .slice p9_4 (((bitQ (fun x y => x ||| y) (fun b c => b || c) p q).1.q2).length) p9_c4]) hA hS rfl rfl (sets_store (cs := [.bool ((bitQ (fun x y => x ||| y) (fun b c => b || c) p q).1.b1), .slice p9_1 (((bitQ (fun x y => x ||| y) (fun b c => b || c) p q).1.t1).length) p9_c1, .slice p9_2 (((bitQ (fun x y => x ||| y) (fun b c => b || c) p q).1.q1).length) p9_c2, .bool ((bitQ (fun x y => x ||| y) (fun b c => b || c) p q).1.b2), .slice p9_3 (((bitQ (fun x y => x ||| y) (fun b c => b || c) p q).1.t2).length) p9_c3, .slice p9_4 (((bitQ (fun x y => x ||| y) (fun b c => b || c) p q).1.q2).length) p9_c4]) rfl rfl rfl (by kernel_rfl) hS 0 rfl rfl rfl) 0 rfl rfl rfl rfl ?_
  intro w13 hS
  refine seq_do hA rfl rfl rfl (does_assign rfl) ?_
  intro a hA
  refine seq_end ?_
  refine hK8 _ _ ?_
  refine wp_ret ?_
  refine hret _ _ ?_
  refine ends (v := .tuple #[.agg #[.bool ((bitQ (fun x y => x ||| y) (fun b c => b || c) p q).1.b1), .slice p9_1 (((bitQ (fun x y => x ||| y) (fun b c => b || c) p q).1.t1).length) p9_c1, .slice p9_2 (((bitQ (fun x y => x ||| y) (fun b c => b || c) p q).1.q1).length) p9_c2, .bool ((bitQ (fun x y => x ||| y) (fun b c => b || c) p q).1.b2), .slice p9_3 (((bitQ (fun x y => x ||| y) (fun b c => b || c) p q).1.t2).length) p9_c3, .slice p9_4 (((bitQ (fun x y => x ||| y) (fun b c => b || c) p q).1.q2).length) p9_c4], .int .i64 ((bitQ (fun x y => x ||| y) (fun b c => b || c) p q).2)]) hA rfl (.cons (res_cell hS isS_26 rfl 0 rfl (cs := [.bool ((bitQ (fun x y => x ||| y) (fun b c => b || c) p q).1.b1), .slice p9_1 (((bitQ (fun x y => x ||| y) (fun b c => b || c) p q).1.t1).length) p9_c1, .slice p9_2 (((bitQ (fun x y => x ||| y) (fun b c => b || c) p q).1.q1).length) p9_c2, .bool ((bitQ (fun x y => x ||| y) (fun b c => b || c) p q).1.b2), .slice p9_3 (((bitQ (fun x y => x ||| y) (fun b c => b || c) p q).1.t2).length) p9_c3, .slice p9_4 (((bitQ (fun x y => x ||| y) (fun b c => b || c) p q).1.q2).length) p9_c4]) rfl rfl) (.cons (res_tmp rfl) .nil)) rfl ?_
  exact ⟨p9_1, p9_c1, p9_2, p9_c2, p9_3, p9_c3, p9_4, p9_c4, rfl, ⟨⟨(hS.rd 3 rfl), hn10.s1.nil, hn10.s1.cap⟩, ⟨(hS.rd 2 rfl), hn10.s2.nil, hn10.s2.cap⟩, ⟨(hS.rd 1 rfl), hn10.s3.nil, hn10.s3.cap⟩, ⟨(hS.rd 0 rfl), hn10.s4.nil, hn10.s4.cap⟩⟩, hS.bel⟩
theorem xorQ_any {w : World} {p q : Q6} {a1 a2 a3 a4 : Option Addr} {ac1 ac2 ac3 ac4 : Nat} (ha : Nm w p a1 ac1 a2 ac2 a3 ac3 a4 ac4) (hl : LenQ p) {u1 u2 u3 u4 : Option Addr} {uc1 uc2 uc3 uc4 : Nat} (hu : Nm w q u1 uc1 u2 uc2 u3 uc3 u4 uc4) (hm : LenQ q) : Calls Try.prog 9 #[numV p a1 ac1 a2 ac2 a3 ac3 a4 ac4, numV q u1 uc1 u2 uc2 u3 uc3 u4 uc4] w (AnsN w (bitQ (fun x y => x ^^^ y) (fun b c => b != c) p q)) := by
  have hS : St w w [] [(u4, q.q2), (u3, q.t2), (u2, q.q1), (u1, q.t1), (a4, p.q2), (a3, p.t2), (a2, p.q1), (a1, p.t1)] [] := ((((((((St.start w).addR ha.s1.rd).addR ha.s2.rd).addR ha.s3.rd).addR ha.s4.rd).addR hu.s1.rd).addR hu.s2.rd).addR hu.s3.rd).addR hu.s4.rd
  refine walk_of (l := [(0, .agg #[.bool p.b1, .slice a1 p.t1.length ac1, .slice a2 p.q1.length ac2, .bool p.b2, .slice a3 p.t2.length ac3, .slice a4 p.q2.length ac4]), (1, .agg #[.bool q.b1, .slice u1 q.t1.length uc1, .slice u2 q.q1.length uc2, .bool q.b2, .slice u3 q.t2.length uc3, .slice u4 q.q2.length uc4])]) Try.func9 rfl Try.ntmps9 rfl rfl ?_
  intro Q hret hnorm hP a hA
  refine wp_seq_k (fun K1 hK1 => ?_)
  refine wp_region_lit ?_
  refine seq_new (vs := [.bool p.b1, .slice a1 p.t1.length ac1, .slice a2 p.q1.length ac2, .bool p.b2, .slice a3 p.t2.length ac3, .slice a4 p.q2.length ac4]) (t := 26) hA hS rfl rfl rfl (fun g => .pointer (some ⟨g, 0, none⟩)) (does_box rfl rfl) rfl ?_
  intro g2 w3 hS a hA
  refine seq_new (vs := [.bool q.b1, .slice u1 q.t1.length uc1, .slice u2 q.q1.length uc2, .bool q.b2, .slice u3 q.t2.length uc3, .slice u4 q.q2.length uc4]) (t := 26) hA hS rfl rfl rfl (fun g => .pointer (some ⟨g, 0, none⟩)) (does_box rfl rfl) rfl ?_
  intro g4 w5 hS a hA
  refine seq_new (vs := [.bool false, .slice none 0 0, .slice none 0 0, .bool false, .slice none 0 0, .slice none 0 0]) (t := 26) hA hS rfl rfl rfl (fun g => .pointer (some ⟨g, 0, none⟩)) (does_alloc (z := .agg #[.bool false, .slice none 0 0, .slice none 0 0, .bool false, .slice none 0 0, .slice none 0 0]) (by kernel_rfl) rfl) rfl ?_
  intro g6 w7 hS a hA
  refine seq_do hA rfl rfl rfl (does_assign rfl) ?_
  intro a hA
  refine seq_end ?_
  refine hK1 _ _ ?_
  refine wp_seq_k (fun K8 hK8 => ?_)
  refine wp_region_lit ?_
  refine seq_do (v := .agg #[.bool p.b1, .slice a1 p.t1.length ac1, .slice a2 p.q1.length ac2, .bool p.b2, .slice a3 p.t2.length ac3, .slice a4 p.q2.length ac4]) hA rfl rfl rfl (does_loadS hS isS_26 rfl 2 rfl (cs := [.bool p.b1, .slice a1 p.t1.length ac1, .slice a2 p.q1.length ac2, .bool p.b2, .slice a3 p.t2.length ac3, .slice a4 p.q2.length ac4]) rfl rfl) ?_
  intro a hA
  refine seq_do (v := .agg #[.bool q.b1, .slice u1 q.t1.length uc1, .slice u2 q.q1.length uc2, .bool q.b2, .slice u3 q.t2.length uc3, .slice u4 q.q2.length uc4]) hA rfl rfl rfl (does_loadS hS isS_26 rfl 1 rfl (cs := [.bool q.b1, .slice u1 q.t1.length uc1, .slice u2 q.q1.length uc2, .bool q.b2, .slice u3 q.t2.length uc3, .slice u4 q.q2.length uc4]) rfl rfl) ?_
  intro a hA
  refine seq_call hA rfl rfl rfl (enters_func  rfl rfl (fun w => by kernel_rfl)) (bitN_any (show Nm _ p a1 ac1 a2 ac2 a3 ac3 a4 ac4 from ⟨⟨(hS.rd 7 rfl), ha.s1.nil, ha.s1.cap⟩, ⟨(hS.rd 6 rfl), ha.s2.nil, ha.s2.cap⟩, ⟨(hS.rd 5 rfl), ha.s3.nil, ha.s3.cap⟩, ⟨(hS.rd 4 rfl), ha.s4.nil, ha.s4.cap⟩⟩) hl (show Nm _ q u1 uc1 u2 uc2 u3 uc3 u4 uc4 from ⟨⟨(hS.rd 3 rfl), hu.s1.nil, hu.s1.cap⟩, ⟨(hS.rd 2 rfl), hu.s2.nil, hu.s2.cap⟩, ⟨(hS.rd 1 rfl), hu.s3.nil, hu.s3.cap⟩, ⟨(hS.rd 0 rfl), hu.s4.nil, hu.s4.cap⟩⟩) hm xorFun xor_op) ?_
  rintro _ w12 ⟨p9_1, p9_c1, p9_2, p9_c2, p9_3, p9_c3, p9_4, p9_c4, rfl, hn10, hb11⟩
  replace hS := hS.call hb11
  replace hS := hS.addR hn10.s1.rd
  replace hS := hS.addR hn10.s2.rd
  replace hS := hS.addR hn10.s3.rd
  replace hS := hS.addR hn10.s4.rd
  refine ⟨_, rfl, ?_⟩
  intro a hA
  refine seq_do (v := .agg #[.bool ((bitQ (fun x y => x ^^^ y) (fun b c => b != c) p q).1.b1), .slice p9_1 (((bitQ (fun x y => x ^^^ y) (fun b c => b != c) p q).1.t1).length) p9_c1, .slice p9_2 (((bitQ (fun x y => x ^^^ y) (fun b c => b != c) p q).1.q1).length) p9_c2, .bool ((bitQ (fun x y => x ^^^ y) (fun b c => b != c) p q).1.b2), .slice p9_3 (((bitQ (fun x y => x ^^^ y) (fun b c => b != c) p q).1.t2).length) p9_c3, .slice p9_4 (((bitQ (fun x y => x ^^^ y) (fun b c => b != c) p q).1.q2).length) p9_c4]) hA rfl rfl rfl (does_extract (vs := [.agg #[.bool ((bitQ (fun x y => x ^^^ y) (fun b c => b != c) p q).1.b1), .slice p9_1 (((bitQ (fun x y => x ^^^ y) (fun b c => b != c) p q).1.t1).length) p9_c1, .slice p9_2 (((bitQ (fun x y => x ^^^ y) (fun b c => b != c) p q).1.q1).length) p9_c2, .bool ((bitQ (fun x y => x ^^^ y) (fun b c => b != c) p q).1.b2), .slice p9_3 (((bitQ (fun x y => x ^^^ y) (fun b c => b != c) p q).1.t2).length) p9_c3, .slice p9_4 (((bitQ (fun x y => x ^^^ y) (fun b c => b != c) p q).1.q2).length) p9_c4], .int .i64 ((bitQ (fun x y => x ^^^ y) (fun b c => b != c) p q).2)]) rfl rfl) ?_
  intro a hA
  refine seq_do (v := .int .i64 ((bitQ (fun x y => x ^^^ y) (fun b c => b != c) p q).2)) hA rfl rfl rfl (does_extract (vs := [.agg #[.bool ((bitQ (fun x y => x ^^^ y) (fun b c => b != c) p q).1.b1), .slice p9_1 (((bitQ (fun x y => x ^^^ y) (fun b c => b != c) p q).1.t1).length) p9_c1, .slice p9_2 (((bitQ (fun x y => x ^^^ y) (fun b c => b != c) p q).1.q1).length) p9_c2, .bool ((bitQ (fun x y => x ^^^ y) (fun b c => b != c) p q).1.b2), .slice p9_3 (((bitQ (fun x y => x ^^^ y) (fun b c => b != c) p q).1.t2).length) p9_c3, .slice p9_4 (((bitQ (fun x y => x ^^^ y) (fun b c => b != c) p q).1.q2).length) p9_c4], .int .i64 ((bitQ (fun x y => x ^^^ y) (fun b c => b != c) p q).2)]) rfl rfl) ?_
  intro a hA
  refine seq_store (us := [.bool ((bitQ (fun x y => x ^^^ y) (fun b c => b != c) p q).1.b1), .slice p9_1 (((bitQ (fun x y => x ^^^ y) (fun b c => b != c) p q).1.t1).length) p9_c1, .slice p9_2 (((bitQ (fun x y => x ^^^ y) (fun b c => b != c) p q).1.q1).length) p9_c2, .bool ((bitQ (fun x y => x ^^^ y) (fun b c => b != c) p q).1.b2), .slice p9_3 (((bitQ (fun x y => x ^^^ y) (fun b c => b != c) p q).1.t2).length) p9_c3, .slice p9_4 (((bitQ (fun x y => x ^^^ y) (fun b c => b != c) p q).1.q2).length) p9_c4]) hA hS rfl rfl (sets_store (cs := [.bool ((bitQ (fun x y => x ^^^ y) (fun b c => b != c) p q).1.b1), .slice p9_1 (((bitQ (fun x y => x ^^^ y) (fun b c => b != c) p q).1.t1).length) p9_c1, .slice p9_2 (((bitQ (fun x y => x ^^^ y) (fun b c => b != c) p q).1.q1).length) p9_c2, .bool ((bitQ (fun x y => x ^^^ y) (fun b c => b != c) p q).1.b2), .slice p9_3 (((bitQ (fun x y => x ^^^ y) (fun b c => b != c) p q).1.t2).length) p9_c3, .slice p9_4 (((bitQ (fun x y => x ^^^ y) (fun b c => b != c) p q).1.q2).length) p9_c4]) rfl rfl rfl (by kernel_rfl) hS 0 rfl rfl rfl) 0 rfl rfl rfl rfl ?_
  intro w13 hS
  refine seq_do hA rfl rfl rfl (does_assign rfl) ?_
  intro a hA
  refine seq_end ?_
  refine hK8 _ _ ?_
  refine wp_ret ?_
  refine hret _ _ ?_
  refine ends (v := .tuple #[.agg #[.bool ((bitQ (fun x y => x ^^^ y) (fun b c => b != c) p q).1.b1), .slice p9_1 (((bitQ (fun x y => x ^^^ y) (fun b c => b != c) p q).1.t1).length) p9_c1, .slice p9_2 (((bitQ (fun x y => x ^^^ y) (fun b c => b != c) p q).1.q1).length) p9_c2, .bool ((bitQ (fun x y => x ^^^ y) (fun b c => b != c) p q).1.b2), .slice p9_3 (((bitQ (fun x y => x ^^^ y) (fun b c => b != c) p q).1.t2).length) p9_c3, .slice p9_4 (((bitQ (fun x y => x ^^^ y) (fun b c => b != c) p q).1.q2).length) p9_c4], .int .i64 ((bitQ (fun x y => x ^^^ y) (fun b c => b != c) p q).2)]) hA rfl (.cons (res_cell hS isS_26 rfl 0 rfl (cs := [.bool ((bitQ (fun x y => x ^^^ y) (fun b c => b != c) p q).1.b1), .slice p9_1 (((bitQ (fun x y => x ^^^ y) (fun b c => b != c) p q).1.t1).length) p9_c1, .slice p9_2 (((bitQ (fun x y => x ^^^ y) (fun b c => b != c) p q).1.q1).length) p9_c2, .bool ((bitQ (fun x y => x ^^^ y) (fun b c => b != c) p q).1.b2), .slice p9_3 (((bitQ (fun x y => x ^^^ y) (fun b c => b != c) p q).1.t2).length) p9_c3, .slice p9_4 (((bitQ (fun x y => x ^^^ y) (fun b c => b != c) p q).1.q2).length) p9_c4]) rfl rfl) (.cons (res_tmp rfl) .nil)) rfl ?_
  exact ⟨p9_1, p9_c1, p9_2, p9_c2, p9_3, p9_c3, p9_4, p9_c4, rfl, ⟨⟨(hS.rd 3 rfl), hn10.s1.nil, hn10.s1.cap⟩, ⟨(hS.rd 2 rfl), hn10.s2.nil, hn10.s2.cap⟩, ⟨(hS.rd 1 rfl), hn10.s3.nil, hn10.s3.cap⟩, ⟨(hS.rd 0 rfl), hn10.s4.nil, hn10.s4.cap⟩⟩, hS.bel⟩
theorem notE_any {w : World} {q : Q6} {a1 a2 a3 a4 : Option Addr} {ac1 ac2 ac3 ac4 : Nat} (ha : Nm w q a1 ac1 a2 ac2 a3 ac3 a4 ac4) (hl : LenQ q)  (hw : (want1 q != 0) = true) : Calls Try.prog 10 #[numV q a1 ac1 a2 ac2 a3 ac3 a4 ac4] w (AnsN w (notQ q)) := by
  have hS : St w w [] [(a4, q.q2), (a3, q.t2), (a2, q.q1), (a1, q.t1)] [] := ((((St.start w).addR ha.s1.rd).addR ha.s2.rd).addR ha.s3.rd).addR ha.s4.rd
  refine walk_of (l := [(0, .agg #[.bool q.b1, .slice a1 q.t1.length ac1, .slice a2 q.q1.length ac2, .bool q.b2, .slice a3 q.t2.length ac3, .slice a4 q.q2.length ac4])]) Try.func10 rfl Try.ntmps10 rfl rfl ?_
  intro Q hret hnorm hP a hA
  refine wp_seq_k (fun K1 hK1 => ?_)
  refine wp_region_lit ?_
  refine seq_new (vs := [.bool q.b1, .slice a1 q.t1.length ac1, .slice a2 q.q1.length ac2, .bool q.b2, .slice a3 q.t2.length ac3, .slice a4 q.q2.length ac4]) (t := 26) hA hS rfl rfl rfl (fun g => .pointer (some ⟨g, 0, none⟩)) (does_box rfl rfl) rfl ?_
  intro g2 w3 hS a hA
  refine seq_new (vs := [.bool false, .slice none 0 0, .slice none 0 0, .bool false, .slice none 0 0, .slice none 0 0]) (t := 26) hA hS rfl rfl rfl (fun g => .pointer (some ⟨g, 0, none⟩)) (does_alloc (z := .agg #[.bool false, .slice none 0 0, .slice none 0 0, .bool false, .slice none 0 0, .slice none 0 0]) (by kernel_rfl) rfl) rfl ?_
  intro g4 w5 hS a hA
  refine seq_do hA rfl rfl rfl (does_assign rfl) ?_
  intro a hA
  refine seq_end ?_
  refine hK1 _ _ ?_
  refine wp_seq_k (fun K6 hK6 => ?_)
  refine wp_seq_k (fun K7 hK7 => ?_)
  refine wp_region_lit ?_
  refine seq_do (v := .agg #[.bool q.b1, .slice a1 q.t1.length ac1, .slice a2 q.q1.length ac2, .bool q.b2, .slice a3 q.t2.length ac3, .slice a4 q.q2.length ac4]) hA rfl rfl rfl (does_loadS hS isS_26 rfl 1 rfl (cs := [.bool q.b1, .slice a1 q.t1.length ac1, .slice a2 q.q1.length ac2, .bool q.b2, .slice a3 q.t2.length ac3, .slice a4 q.q2.length ac4]) rfl rfl) ?_
  intro a hA
  refine seq_new (vs := [.bool q.b1, .slice a1 q.t1.length ac1, .slice a2 q.q1.length ac2, .bool q.b2, .slice a3 q.t2.length ac3, .slice a4 q.q2.length ac4]) (t := 26) hA hS rfl rfl rfl (fun g => .slice (some ⟨g, 0, none⟩) 1 1) (does_buildSlice rfl (by kernel_rfl)) rfl ?_
  intro g8 w9 hS a hA
  refine seq_call hA rfl rfl rfl (enters_func  rfl rfl (fun w => by kernel_rfl)) (want1_any (show Nm _ q a1 ac1 a2 ac2 a3 ac3 a4 ac4 from ⟨⟨(hS.rd 3 rfl), ha.s1.nil, ha.s1.cap⟩, ⟨(hS.rd 2 rfl), ha.s2.nil, ha.s2.cap⟩, ⟨(hS.rd 1 rfl), ha.s3.nil, ha.s3.cap⟩, ⟨(hS.rd 0 rfl), ha.s4.nil, ha.s4.cap⟩⟩) hl (hS.blk 0 rfl) rfl) ?_
  rintro _ w11 ⟨rfl, hb10⟩
  replace hS := hS.call hb10
  refine ⟨_, rfl, ?_⟩
  intro a hA
  refine seq_do hA rfl rfl rfl (does_assign rfl) ?_
  intro a hA
  refine seq_end ?_
  refine hK7 _ _ ?_
  refine wp_seq_k (fun K12 hK12 => ?_)
  refine wp_region_lit ?_
  refine seq_do hA rfl rfl rfl (does_move rfl) ?_
  intro a hA
  refine seq_do (v := .bool true) hA rfl rfl rfl (does_bin rfl rfl (fun w => (bin_neq w).trans (by rw [show ((want1 q != 0)) = true from hw]))) ?_
  intro a hA
  refine seq_end ?_
  refine hK12 _ _ ?_
  refine wp_cond_true (hA.ev rfl) ?_
  refine wp_seq_k (fun K13 hK13 => ?_)
  refine wp_region_lit ?_
  refine seq_do (v := .agg #[.bool false, .slice none 0 0, .slice none 0 0, .bool false, .slice none 0 0, .slice none 0 0]) hA rfl rfl rfl (does_build rfl (fun w => by kernel_rfl)) ?_
  intro a hA
  refine seq_do hA rfl rfl rfl (does_move rfl) ?_
  intro a hA
  refine seq_store (us := [.bool false, .slice none 0 0, .slice none 0 0, .bool false, .slice none 0 0, .slice none 0 0]) hA hS rfl rfl (sets_store (cs := [.bool false, .slice none 0 0, .slice none 0 0, .bool false, .slice none 0 0, .slice none 0 0]) rfl rfl rfl (by kernel_rfl) hS 1 rfl rfl rfl) 1 rfl rfl rfl rfl ?_
  intro w14 hS
  refine seq_do hA rfl rfl rfl (does_assign rfl) ?_
  intro a hA
  refine seq_end ?_
  refine hK13 _ _ ?_
  refine wp_ret ?_
  refine hret _ _ ?_
  refine ends (v := .tuple #[.agg #[.bool false, .slice none 0 0, .slice none 0 0, .bool false, .slice none 0 0, .slice none 0 0], .int .i64 (want1 q)]) hA rfl (.cons (res_cell hS isS_26 rfl 1 rfl (cs := [.bool false, .slice none 0 0, .slice none 0 0, .bool false, .slice none 0 0, .slice none 0 0]) rfl rfl) (.cons (res_tmp rfl) .nil)) rfl ?_
  rw [notQ_err hw]
  exact ⟨none, 0, none, 0, none, 0, none, 0, rfl, ⟨(Sc.none _), (Sc.none _), (Sc.none _), (Sc.none _)⟩, hS.bel⟩
theorem notW_any {w : World} {b : Bool} {x : Nat} {a1 a2 a3 a4 : Option Addr} {ac1 ac2 ac3 ac4 : Nat} (ha : Nm w (Q6.whole b x) a1 ac1 a2 ac2 a3 ac3 a4 ac4) (hl : LenQ (Q6.whole b x))  (hw : want1 (Q6.whole b x) = 0) (hx : (words x).length ≤ 512) (hb : b.toNat ≤ x) : Calls Try.prog 10 #[numV (Q6.whole b x) a1 ac1 a2 ac2 a3 ac3 a4 ac4] w (AnsN w (notQ (Q6.whole b x))) := by
  have hS : St w w [] [(a4, [1]), (a3, []), (a2, [1]), (a1, words x)] [] := ((((St.start w).addR ha.s1.rd).addR ha.s2.rd).addR ha.s3.rd).addR ha.s4.rd
  refine walk_of (l := [(0, .agg #[.bool b, .slice a1 ((words x).length) ac1, .slice a2 1 ac2, .bool false, .slice a3 0 ac3, .slice a4 1 ac4])]) Try.func10 rfl Try.ntmps10 rfl rfl ?_
  intro Q hret hnorm hP a hA
  refine wp_seq_k (fun K1 hK1 => ?_)
  refine wp_region_lit ?_
  refine seq_new (vs := [.bool b, .slice a1 ((words x).length) ac1, .slice a2 1 ac2, .bool false, .slice a3 0 ac3, .slice a4 1 ac4]) (t := 26) hA hS rfl rfl rfl (fun g => .pointer (some ⟨g, 0, none⟩)) (does_box rfl rfl) rfl ?_
  intro g2 w3 hS a hA
  refine seq_new (vs := [.bool false, .slice none 0 0, .slice none 0 0, .bool false, .slice none 0 0, .slice none 0 0]) (t := 26) hA hS rfl rfl rfl (fun g => .pointer (some ⟨g, 0, none⟩)) (does_alloc (z := .agg #[.bool false, .slice none 0 0, .slice none 0 0, .bool false, .slice none 0 0, .slice none 0 0]) (by kernel_rfl) rfl) rfl ?_
  intro g4 w5 hS a hA
  refine seq_do hA rfl rfl rfl (does_assign rfl) ?_
  intro a hA
  refine seq_end ?_
  refine hK1 _ _ ?_
  refine wp_seq_k (fun K6 hK6 => ?_)
  refine wp_seq_k (fun K7 hK7 => ?_)
  refine wp_region_lit ?_
  refine seq_do (v := .agg #[.bool b, .slice a1 ((words x).length) ac1, .slice a2 1 ac2, .bool false, .slice a3 0 ac3, .slice a4 1 ac4]) hA rfl rfl rfl (does_loadS hS isS_26 rfl 1 rfl (cs := [.bool b, .slice a1 ((words x).length) ac1, .slice a2 1 ac2, .bool false, .slice a3 0 ac3, .slice a4 1 ac4]) rfl rfl) ?_
  intro a hA
  refine seq_new (vs := [.bool b, .slice a1 ((words x).length) ac1, .slice a2 1 ac2, .bool false, .slice a3 0 ac3, .slice a4 1 ac4]) (t := 26) hA hS rfl rfl rfl (fun g => .slice (some ⟨g, 0, none⟩) 1 1) (does_buildSlice rfl (by kernel_rfl)) rfl ?_
  intro g8 w9 hS a hA
  refine seq_call hA rfl rfl rfl (enters_func  rfl rfl (fun w => by kernel_rfl)) (want1_any (show Nm _ (Q6.whole b x) a1 ac1 a2 ac2 a3 ac3 a4 ac4 from ⟨⟨(hS.rd 3 rfl), ha.s1.nil, ha.s1.cap⟩, ⟨(hS.rd 2 rfl), ha.s2.nil, ha.s2.cap⟩, ⟨(hS.rd 1 rfl), ha.s3.nil, ha.s3.cap⟩, ⟨(hS.rd 0 rfl), ha.s4.nil, ha.s4.cap⟩⟩) hl (hS.blk 0 rfl) hw) ?_
  rintro _ w11 ⟨rfl, hb10⟩
  replace hS := hS.call hb10
  refine ⟨_, rfl, ?_⟩
  intro a hA
  refine seq_do hA rfl rfl rfl (does_assign rfl) ?_
  intro a hA
  refine seq_end ?_
  refine hK7 _ _ ?_
  refine wp_seq_k (fun K12 hK12 => ?_)
  refine wp_region_lit ?_
  refine seq_do hA rfl rfl rfl (does_move rfl) ?_
  intro a hA
  refine seq_do (v := .bool false) hA rfl rfl rfl (does_bin rfl rfl (fun w => by kernel_rfl)) ?_
  intro a hA
  refine seq_end ?_
  refine hK12 _ _ ?_
  refine wp_cond_false (hA.ev rfl) ?_
  refine wp_skip ?_
  refine hK6 _ _ ?_
  refine wp_seq_k (fun K13 hK13 => ?_)
  refine wp_region_lit ?_
  refine seq_do (v := .agg #[.bool b, .slice a1 ((words x).length) ac1, .slice a2 1 ac2, .bool false, .slice a3 0 ac3, .slice a4 1 ac4]) hA rfl rfl rfl (does_loadS hS isS_26 rfl 2 rfl (cs := [.bool b, .slice a1 ((words x).length) ac1, .slice a2 1 ac2, .bool false, .slice a3 0 ac3, .slice a4 1 ac4]) rfl rfl) ?_
  intro a hA
  refine seq_call hA rfl rfl rfl (enters_func  rfl rfl (fun w => by kernel_rfl)) (rowOf_any (show Nm _ (Q6.whole b x) a1 ac1 a2 ac2 a3 ac3 a4 ac4 from ⟨⟨(hS.rd 3 rfl), ha.s1.nil, ha.s1.cap⟩, ⟨(hS.rd 2 rfl), ha.s2.nil, ha.s2.cap⟩, ⟨(hS.rd 1 rfl), ha.s3.nil, ha.s3.cap⟩, ⟨(hS.rd 0 rfl), ha.s4.nil, ha.s4.cap⟩⟩) hx hb) ?_
  rintro _ w18 ⟨ro14, rc15, rfl, hs16, hb17⟩
  replace hS := hS.call hb17
  replace hS := hS.addR hs16.rd
  refine ⟨_, rfl, ?_⟩
  intro a hA
  refine seq_call hA rfl rfl rfl (enters_func  rfl rfl (fun w => by kernel_rfl)) (turned_any) ?_
  rintro _ w20 ⟨rfl, hb19⟩
  replace hS := hS.call hb19
  refine ⟨_, rfl, ?_⟩
  intro a hA
  refine seq_call hA rfl rfl rfl (enters_func  rfl rfl (fun w => by kernel_rfl)) (number_any (b := !b) ⟨(hS.rd 0 rfl), hs16.nil, hs16.cap⟩ (sub_len hx)) ?_
  rintro _ w24 ⟨p21_1, p21_c1, p21_2, p21_c2, p21_3, p21_c3, p21_4, p21_c4, rfl, hn22, hb23⟩
  replace hS := hS.call hb23
  replace hS := hS.addR hn22.s1.rd
  replace hS := hS.addR hn22.s2.rd
  replace hS := hS.addR hn22.s3.rd
  replace hS := hS.addR hn22.s4.rd
  refine ⟨_, rfl, ?_⟩
  intro a hA
  refine seq_do (v := .agg #[.bool ((bigS (!b) (x - b.toNat + (!b).toNat)).1.b1), .slice p21_1 (((bigS (!b) (x - b.toNat + (!b).toNat)).1.t1).length) p21_c1, .slice p21_2 (((bigS (!b) (x - b.toNat + (!b).toNat)).1.q1).length) p21_c2, .bool ((bigS (!b) (x - b.toNat + (!b).toNat)).1.b2), .slice p21_3 (((bigS (!b) (x - b.toNat + (!b).toNat)).1.t2).length) p21_c3, .slice p21_4 (((bigS (!b) (x - b.toNat + (!b).toNat)).1.q2).length) p21_c4]) hA rfl rfl rfl (does_extract (vs := [.agg #[.bool ((bigS (!b) (x - b.toNat + (!b).toNat)).1.b1), .slice p21_1 (((bigS (!b) (x - b.toNat + (!b).toNat)).1.t1).length) p21_c1, .slice p21_2 (((bigS (!b) (x - b.toNat + (!b).toNat)).1.q1).length) p21_c2, .bool ((bigS (!b) (x - b.toNat + (!b).toNat)).1.b2), .slice p21_3 (((bigS (!b) (x - b.toNat + (!b).toNat)).1.t2).length) p21_c3, .slice p21_4 (((bigS (!b) (x - b.toNat + (!b).toNat)).1.q2).length) p21_c4], .int .i64 ((bigS (!b) (x - b.toNat + (!b).toNat)).2)]) rfl rfl) ?_
  intro a hA
  refine seq_do (v := .int .i64 ((bigS (!b) (x - b.toNat + (!b).toNat)).2)) hA rfl rfl rfl (does_extract (vs := [.agg #[.bool ((bigS (!b) (x - b.toNat + (!b).toNat)).1.b1), .slice p21_1 (((bigS (!b) (x - b.toNat + (!b).toNat)).1.t1).length) p21_c1, .slice p21_2 (((bigS (!b) (x - b.toNat + (!b).toNat)).1.q1).length) p21_c2, .bool ((bigS (!b) (x - b.toNat + (!b).toNat)).1.b2), .slice p21_3 (((bigS (!b) (x - b.toNat + (!b).toNat)).1.t2).length) p21_c3, .slice p21_4 (((bigS (!b) (x - b.toNat + (!b).toNat)).1.q2).length) p21_c4], .int .i64 ((bigS (!b) (x - b.toNat + (!b).toNat)).2)]) rfl rfl) ?_
  intro a hA
  refine seq_store (us := [.bool ((bigS (!b) (x - b.toNat + (!b).toNat)).1.b1), .slice p21_1 (((bigS (!b) (x - b.toNat + (!b).toNat)).1.t1).length) p21_c1, .slice p21_2 (((bigS (!b) (x - b.toNat + (!b).toNat)).1.q1).length) p21_c2, .bool ((bigS (!b) (x - b.toNat + (!b).toNat)).1.b2), .slice p21_3 (((bigS (!b) (x - b.toNat + (!b).toNat)).1.t2).length) p21_c3, .slice p21_4 (((bigS (!b) (x - b.toNat + (!b).toNat)).1.q2).length) p21_c4]) hA hS rfl rfl (sets_store (cs := [.bool ((bigS (!b) (x - b.toNat + (!b).toNat)).1.b1), .slice p21_1 (((bigS (!b) (x - b.toNat + (!b).toNat)).1.t1).length) p21_c1, .slice p21_2 (((bigS (!b) (x - b.toNat + (!b).toNat)).1.q1).length) p21_c2, .bool ((bigS (!b) (x - b.toNat + (!b).toNat)).1.b2), .slice p21_3 (((bigS (!b) (x - b.toNat + (!b).toNat)).1.t2).length) p21_c3, .slice p21_4 (((bigS (!b) (x - b.toNat + (!b).toNat)).1.q2).length) p21_c4]) rfl rfl rfl (by kernel_rfl) hS 1 rfl rfl rfl) 1 rfl rfl rfl rfl ?_
  intro w25 hS
  refine seq_do hA rfl rfl rfl (does_assign rfl) ?_
  intro a hA
  refine seq_end ?_
  refine hK13 _ _ ?_
  refine wp_ret ?_
  refine hret _ _ ?_
  refine ends (v := .tuple #[.agg #[.bool ((bigS (!b) (x - b.toNat + (!b).toNat)).1.b1), .slice p21_1 (((bigS (!b) (x - b.toNat + (!b).toNat)).1.t1).length) p21_c1, .slice p21_2 (((bigS (!b) (x - b.toNat + (!b).toNat)).1.q1).length) p21_c2, .bool ((bigS (!b) (x - b.toNat + (!b).toNat)).1.b2), .slice p21_3 (((bigS (!b) (x - b.toNat + (!b).toNat)).1.t2).length) p21_c3, .slice p21_4 (((bigS (!b) (x - b.toNat + (!b).toNat)).1.q2).length) p21_c4], .int .i64 ((bigS (!b) (x - b.toNat + (!b).toNat)).2)]) hA rfl (.cons (res_cell hS isS_26 rfl 1 rfl (cs := [.bool ((bigS (!b) (x - b.toNat + (!b).toNat)).1.b1), .slice p21_1 (((bigS (!b) (x - b.toNat + (!b).toNat)).1.t1).length) p21_c1, .slice p21_2 (((bigS (!b) (x - b.toNat + (!b).toNat)).1.q1).length) p21_c2, .bool ((bigS (!b) (x - b.toNat + (!b).toNat)).1.b2), .slice p21_3 (((bigS (!b) (x - b.toNat + (!b).toNat)).1.t2).length) p21_c3, .slice p21_4 (((bigS (!b) (x - b.toNat + (!b).toNat)).1.q2).length) p21_c4]) rfl rfl) (.cons (res_tmp rfl) .nil)) rfl ?_
  rw [notQ_whole hw, ← turn_sum hb]
  exact ⟨p21_1, p21_c1, p21_2, p21_c2, p21_3, p21_c3, p21_4, p21_c4, rfl, ⟨⟨(hS.rd 3 rfl), hn22.s1.nil, hn22.s1.cap⟩, ⟨(hS.rd 2 rfl), hn22.s2.nil, hn22.s2.cap⟩, ⟨(hS.rd 1 rfl), hn22.s3.nil, hn22.s3.cap⟩, ⟨(hS.rd 0 rfl), hn22.s4.nil, hn22.s4.cap⟩⟩, hS.bel⟩
end Go.Proofs.Yteghiinbafbokaa
namespace Go.Proofs.Yteghiinbafbokaa
open Go.RowKit
set_option linter.unusedVariables false
set_option linter.unusedSimpArgs false

def intQ (n : Int) : Q6 := Q6.whole (decide (n < 0)) n.natAbs
section
variable {P : Program}
theorem conv_up {s d : TypeId} {k : Nat} (hs : P.underlying s = some (.int .i64)) (hd : P.underlying d = some (.int .u64)) (h : k ≤ 9223372036854775807) : ∀ w, (convert s d (.int .i64 ((k : Nat) : Int))).run P w = .ok (.int .u64 ((k : Nat) : Int)) w := fun w => by
  have := wrap_u64 k (by omega)
  simp [convert, run_underlying hs, run_underlying hd, go_sem, this]
theorem u64_neg {k : Nat} (h0 : 0 < k) (h : k ≤ 9223372036854775808) : IntKind.u64.wrap (-((k : Nat) : Int)) = ((18446744073709551616 - k : Nat) : Int) := by
  rw [IntKind.wrap_u64]
  omega
theorem conv_neg {s d : TypeId} {k : Nat} (hs : P.underlying s = some (.int .i64)) (hd : P.underlying d = some (.int .u64)) (h0 : 0 < k) (h : k ≤ 9223372036854775808) : ∀ w, (convert s d (.int .i64 (-((k : Nat) : Int)))).run P w = .ok (.int .u64 ((18446744073709551616 - k : Nat) : Int)) w := fun w => by
  have := u64_neg h0 h
  simp [convert, run_underlying hs, run_underlying hd, go_sem, this]
theorem un_negU {k : Nat} (h0 : 0 < k) (h : k ≤ 9223372036854775808) : ∀ w, (Op.unary .neg (.int .u64 ((18446744073709551616 - k : Nat) : Int))).run P w = .ok (.int .u64 ((k : Nat) : Int)) w := fun w => by
  have e : IntKind.u64.wrap (-((18446744073709551616 - k : Nat) : Int)) = ((k : Nat) : Int) := by rw [IntKind.wrap_u64]; omega
  simp [go_sem, e]
end
def sameF (b : Bool) (t q : List Nat) (b' : Bool) (t' q' : List Nat) : Bool := (b == b') && (decide (t = t') && decide (q = q'))
def sameQ (p q : Q6) : Bool := soundQ p && (soundQ q && (sameF p.b1 p.t1 p.q1 q.b1 q.t1 q.q1 && sameF p.b2 p.t2 p.q2 q.b2 q.t2 q.q2))
theorem sameF_refl (b : Bool) (t q : List Nat) : sameF b t q b t q = true := by simp [sameF]
theorem sameQ_self {q : Q6} (h : soundQ q = true) : sameQ q q = true := by simp [sameQ, h, sameF_refl]
theorem sameQ_iff {p q : Q6} : sameQ p q = true ↔ soundQ p = true ∧ soundQ q = true ∧ p = q := by
  unfold sameQ sameF
  simp only [Bool.and_eq_true, beq_iff_eq, decide_eq_true_eq]
  constructor
  · rintro ⟨h1, h2, ⟨h3, h4, h5⟩, h6, h7, h8⟩
    refine ⟨h1, h2, ?_⟩
    cases p; cases q
    simp_all
  · rintro ⟨h1, h2, rfl⟩
    exact ⟨h1, h2, ⟨rfl, rfl, rfl⟩, rfl, rfl, rfl⟩
theorem equalB_any {w : World} {ao bo : Option Addr} {l1 l2 : List Nat} (ca cb : Nat) (ha : Rd w ao l1) (hb : Rd w bo l2) (h1 : l1.length ≤ 9223372036854775807) (h2 : l2.length ≤ 9223372036854775807) {r : Bool} (hr : decide (l1 = l2) = r) :
    Calls Try.prog 86 #[.slice ao l1.length ca, .slice bo l2.length cb] w fun e w' => e = .returned (.bool r) ∧ Below w.heap.size w w' := by
  subst hr
  exact equal_any ca cb ha hb h1 h2
theorem soundQ_whole {b : Bool} {x : Nat} (hx : (words x).length ≤ 512) (hb : b.toNat ≤ x) : soundQ (Q6.whole b x) = true := by
  unfold soundQ soundN
  simp only [Q6.whole]
  have h1 : (words 1).length ≤ 512 := by rw [words_one]; decide
  have h0 : (words 0).length ≤ 512 := by rw [words_zero]; decide
  have e1 : fracS b (words x) [1] = true := by
    rw [← words_one, fracS_words hx h1, Nat.gcd_one_right, words_one]
    cases b with
    | false => simp
    | true =>
      have : x ≠ 0 := by simp at hb; omega
      have : (words x).length ≠ 0 := fun e => this (words_eq_nil.1 (List.length_eq_zero_iff.1 e))
      simp [words_eq_nil]
      assumption
  have e2 : fracS false [] [1] = true := by
    rw [← words_one, ← words_zero, fracS_words h0 h1, Nat.gcd_one_right, words_one]
    simp
  rw [e1, e2]
  rfl
theorem wholeQ_whole {b : Bool} {x : Nat} (hx : (words x).length ≤ 512) (hb : b.toNat ≤ x) : wholeQ (Q6.whole b x) = true := by
  unfold wholeQ
  rw [soundQ_whole hx hb]
  simp [Q6.whole]
theorem lenQ_whole {b : Bool} {x : Nat} (hx : (words x).length ≤ 512) : LenQ (Q6.whole b x) := ⟨by simp only [Q6.whole]; omega, by simp [Q6.whole], by simp [Q6.whole], by simp [Q6.whole]⟩
theorem one_len : (words 1).length ≤ 512 := by rw [words_one]; decide
theorem words_five : words 5 = [5] := by rw [words_pos (by omega)]; simp [words_zero]
theorem five_len : (words 5).length ≤ 512 := by rw [words_five]; decide
theorem awake_and : bitQ (fun x y => x &&& y) (fun b c => b && c) (Q6.whole true 1) (Q6.whole false 5) = (Q6.whole false 5, 0) := by
  have hw : want2 (Q6.whole true 1) (Q6.whole false 5) = 0 := by
    unfold want2
    rw [soundQ_whole one_len (by decide), soundQ_whole five_len (by decide), wholeQ_whole one_len (by decide), wholeQ_whole five_len (by decide)]
    simp
  rw [bitQ_whole hw]
  have e : putY (fun x y => x &&& y) (fun b c => b && c) true (1 - true.toNat) false (5 - false.toNat) + (true && false).toNat = 5 := by
    unfold putY
    show val (outL _ _ true 0 false 5 (max (words 0).length (words 5).length)) + 0 = 5
    rw [words_zero, words_five]
    decide
  rw [e]
  exact bigS_pos five_len
end Go.Proofs.Yteghiinbafbokaa
namespace Go.Proofs.Yteghiinbafbokaa
open Go.RowKit
set_option linter.unusedVariables false
set_option linter.unusedSimpArgs false
set_option maxRecDepth 100000

theorem intP_any {w : World} {k : Nat} (hk : k ≤ 9223372036854775807) : Calls Try.prog 34 #[.int .i64 (((k : Nat) : Int))] w (AnsV w (Q6.whole false k)) := by
  have hS : St w w [] [] [] := St.start w
  refine walk_of (l := [(0, .int .i64 (((k : Nat) : Int)))]) Try.func34 rfl Try.ntmps34 rfl rfl ?_
  intro Q hret hnorm hP a hA
  refine wp_seq_k (fun K1 hK1 => ?_)
  refine wp_region_lit ?_
  refine seq_new (vs := [.bool false, .slice none 0 0, .slice none 0 0, .bool false, .slice none 0 0, .slice none 0 0]) (t := 26) hA hS rfl rfl rfl (fun g => .pointer (some ⟨g, 0, none⟩)) (does_alloc (z := .agg #[.bool false, .slice none 0 0, .slice none 0 0, .bool false, .slice none 0 0, .slice none 0 0]) (by kernel_rfl) rfl) rfl ?_
  intro g2 w3 hS a hA
  refine seq_end ?_
  refine hK1 _ _ ?_
  refine wp_seq_k (fun K4 hK4 => ?_)
  refine wp_region_lit ?_
  refine seq_do hA rfl rfl rfl (does_move rfl) ?_
  intro a hA
  refine seq_do (v := .int .u64 (((k : Nat) : Int))) hA rfl rfl rfl (does_convert rfl (conv_up Try.underlying3 Try.underlying73 hk)) ?_
  intro a hA
  refine seq_do hA rfl rfl rfl (does_assign rfl) ?_
  intro a hA
  refine seq_end ?_
  refine hK4 _ _ ?_
  refine wp_seq_k (fun K5 hK5 => ?_)
  refine wp_seq_k (fun K6 hK6 => ?_)
  refine wp_region_lit ?_
  refine seq_do hA rfl rfl rfl (does_move rfl) ?_
  intro a hA
  refine seq_do (v := .bool false) hA rfl rfl rfl (does_bin rfl rfl (fun w => (bin_lss w).trans (by rw [show (decide (((k : Nat) : Int) < 0)) = false from decide_eq_false (by omega)]))) ?_
  intro a hA
  refine seq_end ?_
  refine hK6 _ _ ?_
  refine wp_cond_false (hA.ev rfl) ?_
  refine wp_skip ?_
  refine hK5 _ _ ?_
  refine wp_seq_k (fun K7 hK7 => ?_)
  refine wp_region_lit ?_
  refine seq_do hA rfl rfl rfl (does_move rfl) ?_
  intro a hA
  refine seq_do (v := .bool false) hA rfl rfl rfl (does_bin rfl rfl (fun w => (bin_lss w).trans (by rw [show (decide (((k : Nat) : Int) < 0)) = false from decide_eq_false (by omega)]))) ?_
  intro a hA
  refine seq_do hA rfl rfl rfl (does_move rfl) ?_
  intro a hA
  refine seq_call hA rfl rfl rfl (enters_func  rfl rfl (fun w => by kernel_rfl)) (of_any k _ (by omega)) ?_
  rintro _ w12 ⟨ro8, rc9, rfl, ho10, hb11⟩
  replace hS := hS.call hb11
  replace hS := hS.addR ho10.rd
  refine ⟨_, rfl, ?_⟩
  intro a hA
  refine seq_call hA rfl rfl rfl (enters_func  rfl rfl (fun w => by kernel_rfl)) (of_one _) ?_
  rintro _ w17 ⟨ro13, rc14, rfl, ho15, hb16⟩
  replace hS := hS.call hb16
  replace hS := hS.addR ho15.rd
  refine ⟨_, rfl, ?_⟩
  intro a hA
  refine seq_do (v := .agg #[.bool false, .slice ro8 ((words k).length) rc9, .slice ro13 1 rc14]) hA rfl rfl rfl (does_build rfl (fun w => by kernel_rfl)) ?_
  intro a hA
  refine seq_call hA rfl rfl rfl (enters_func  rfl rfl (fun w => by kernel_rfl)) (of_one _) ?_
  rintro _ w22 ⟨ro18, rc19, rfl, ho20, hb21⟩
  replace hS := hS.call hb21
  replace hS := hS.addR ho20.rd
  refine ⟨_, rfl, ?_⟩
  intro a hA
  refine seq_do (v := .agg #[.bool false, .slice none 0 0, .slice ro18 1 rc19]) hA rfl rfl rfl (does_build rfl (fun w => by kernel_rfl)) ?_
  intro a hA
  refine seq_do (v := .agg #[.bool false, .slice ro8 ((words k).length) rc9, .slice ro13 1 rc14, .bool false, .slice none 0 0, .slice ro18 1 rc19]) hA rfl rfl rfl (does_build rfl (fun w => by kernel_rfl)) ?_
  intro a hA
  refine seq_store (us := [.bool false, .slice ro8 ((words k).length) rc9, .slice ro13 1 rc14, .bool false, .slice none 0 0, .slice ro18 1 rc19]) hA hS rfl rfl (sets_store (cs := [.bool false, .slice ro8 ((words k).length) rc9, .slice ro13 1 rc14, .bool false, .slice none 0 0, .slice ro18 1 rc19]) rfl rfl rfl (by kernel_rfl) hS 0 rfl rfl rfl) 0 rfl rfl rfl rfl ?_
  intro w23 hS
  refine seq_end ?_
  refine hK7 _ _ ?_
  refine wp_ret ?_
  refine hret _ _ ?_
  refine ends (v := .agg #[.bool false, .slice ro8 ((words k).length) rc9, .slice ro13 1 rc14, .bool false, .slice none 0 0, .slice ro18 1 rc19]) hA rfl (.cons (res_cell hS isS_26 rfl 0 rfl (cs := [.bool false, .slice ro8 ((words k).length) rc9, .slice ro13 1 rc14, .bool false, .slice none 0 0, .slice ro18 1 rc19]) rfl rfl) .nil) rfl ?_
  exact ⟨ro8, rc9, ro13, rc14, none, 0, ro18, rc19, rfl, ⟨⟨(hS.rd 2 rfl), ho10.nocap, ho10.caps⟩, ⟨(hS.rd 1 rfl), ho15.nocap, ho15.caps⟩, (Sc.none _), ⟨(hS.rd 0 rfl), ho20.nocap, ho20.caps⟩⟩, hS.bel⟩
theorem intN_any {w : World} {k : Nat} (h0 : 0 < k) (hk : k ≤ 9223372036854775808) : Calls Try.prog 34 #[.int .i64 (-((k : Nat) : Int))] w (AnsV w (Q6.whole true k)) := by
  have hS : St w w [] [] [] := St.start w
  refine walk_of (l := [(0, .int .i64 (-((k : Nat) : Int)))]) Try.func34 rfl Try.ntmps34 rfl rfl ?_
  intro Q hret hnorm hP a hA
  refine wp_seq_k (fun K1 hK1 => ?_)
  refine wp_region_lit ?_
  refine seq_new (vs := [.bool false, .slice none 0 0, .slice none 0 0, .bool false, .slice none 0 0, .slice none 0 0]) (t := 26) hA hS rfl rfl rfl (fun g => .pointer (some ⟨g, 0, none⟩)) (does_alloc (z := .agg #[.bool false, .slice none 0 0, .slice none 0 0, .bool false, .slice none 0 0, .slice none 0 0]) (by kernel_rfl) rfl) rfl ?_
  intro g2 w3 hS a hA
  refine seq_end ?_
  refine hK1 _ _ ?_
  refine wp_seq_k (fun K4 hK4 => ?_)
  refine wp_region_lit ?_
  refine seq_do hA rfl rfl rfl (does_move rfl) ?_
  intro a hA
  refine seq_do (v := .int .u64 (((18446744073709551616 - k : Nat) : Int))) hA rfl rfl rfl (does_convert rfl (conv_neg Try.underlying3 Try.underlying73 h0 hk)) ?_
  intro a hA
  refine seq_do hA rfl rfl rfl (does_assign rfl) ?_
  intro a hA
  refine seq_end ?_
  refine hK4 _ _ ?_
  refine wp_seq_k (fun K5 hK5 => ?_)
  refine wp_seq_k (fun K6 hK6 => ?_)
  refine wp_region_lit ?_
  refine seq_do hA rfl rfl rfl (does_move rfl) ?_
  intro a hA
  refine seq_do (v := .bool true) hA rfl rfl rfl (does_bin rfl rfl (fun w => (bin_lss w).trans (by rw [show (decide (-((k : Nat) : Int) < 0)) = true from decide_eq_true (by omega)]))) ?_
  intro a hA
  refine seq_end ?_
  refine hK6 _ _ ?_
  refine wp_cond_true (hA.ev rfl) ?_
  refine wp_region_lit ?_
  refine seq_do hA rfl rfl rfl (does_move rfl) ?_
  intro a hA
  refine seq_do (v := .int .u64 (((k : Nat) : Int))) hA rfl rfl rfl (does_un rfl (un_negU h0 hk)) ?_
  intro a hA
  refine seq_do hA rfl rfl rfl (does_assign rfl) ?_
  intro a hA
  refine seq_end ?_
  refine hK5 _ _ ?_
  refine wp_seq_k (fun K7 hK7 => ?_)
  refine wp_region_lit ?_
  refine seq_do hA rfl rfl rfl (does_move rfl) ?_
  intro a hA
  refine seq_do (v := .bool true) hA rfl rfl rfl (does_bin rfl rfl (fun w => (bin_lss w).trans (by rw [show (decide (-((k : Nat) : Int) < 0)) = true from decide_eq_true (by omega)]))) ?_
  intro a hA
  refine seq_do hA rfl rfl rfl (does_move rfl) ?_
  intro a hA
  refine seq_call hA rfl rfl rfl (enters_func  rfl rfl (fun w => by kernel_rfl)) (of_any k _ (by omega)) ?_
  rintro _ w12 ⟨ro8, rc9, rfl, ho10, hb11⟩
  replace hS := hS.call hb11
  replace hS := hS.addR ho10.rd
  refine ⟨_, rfl, ?_⟩
  intro a hA
  refine seq_call hA rfl rfl rfl (enters_func  rfl rfl (fun w => by kernel_rfl)) (of_one _) ?_
  rintro _ w17 ⟨ro13, rc14, rfl, ho15, hb16⟩
  replace hS := hS.call hb16
  replace hS := hS.addR ho15.rd
  refine ⟨_, rfl, ?_⟩
  intro a hA
  refine seq_do (v := .agg #[.bool true, .slice ro8 ((words k).length) rc9, .slice ro13 1 rc14]) hA rfl rfl rfl (does_build rfl (fun w => by kernel_rfl)) ?_
  intro a hA
  refine seq_call hA rfl rfl rfl (enters_func  rfl rfl (fun w => by kernel_rfl)) (of_one _) ?_
  rintro _ w22 ⟨ro18, rc19, rfl, ho20, hb21⟩
  replace hS := hS.call hb21
  replace hS := hS.addR ho20.rd
  refine ⟨_, rfl, ?_⟩
  intro a hA
  refine seq_do (v := .agg #[.bool false, .slice none 0 0, .slice ro18 1 rc19]) hA rfl rfl rfl (does_build rfl (fun w => by kernel_rfl)) ?_
  intro a hA
  refine seq_do (v := .agg #[.bool true, .slice ro8 ((words k).length) rc9, .slice ro13 1 rc14, .bool false, .slice none 0 0, .slice ro18 1 rc19]) hA rfl rfl rfl (does_build rfl (fun w => by kernel_rfl)) ?_
  intro a hA
  refine seq_store (us := [.bool true, .slice ro8 ((words k).length) rc9, .slice ro13 1 rc14, .bool false, .slice none 0 0, .slice ro18 1 rc19]) hA hS rfl rfl (sets_store (cs := [.bool true, .slice ro8 ((words k).length) rc9, .slice ro13 1 rc14, .bool false, .slice none 0 0, .slice ro18 1 rc19]) rfl rfl rfl (by kernel_rfl) hS 0 rfl rfl rfl) 0 rfl rfl rfl rfl ?_
  intro w23 hS
  refine seq_end ?_
  refine hK7 _ _ ?_
  refine wp_ret ?_
  refine hret _ _ ?_
  refine ends (v := .agg #[.bool true, .slice ro8 ((words k).length) rc9, .slice ro13 1 rc14, .bool false, .slice none 0 0, .slice ro18 1 rc19]) hA rfl (.cons (res_cell hS isS_26 rfl 0 rfl (cs := [.bool true, .slice ro8 ((words k).length) rc9, .slice ro13 1 rc14, .bool false, .slice none 0 0, .slice ro18 1 rc19]) rfl rfl) .nil) rfl ?_
  exact ⟨ro8, rc9, ro13, rc14, none, 0, ro18, rc19, rfl, ⟨⟨(hS.rd 2 rfl), ho10.nocap, ho10.caps⟩, ⟨(hS.rd 1 rfl), ho15.nocap, ho15.caps⟩, (Sc.none _), ⟨(hS.rd 0 rfl), ho20.nocap, ho20.caps⟩⟩, hS.bel⟩
theorem intQ_any {w : World} {n : Int} (h0 : -9223372036854775808 ≤ n) (h1 : n ≤ 9223372036854775807) : Calls Try.prog 34 #[.int .i64 n] w (AnsV w (intQ n)) := by
  by_cases h : n < 0
  · obtain ⟨k, hk⟩ := Int.eq_ofNat_of_zero_le (show 0 ≤ -n by omega)
    have e : n = -((k : Nat) : Int) := by omega
    subst e
    have := intN_any (w := w) (k := k) (by omega) (by omega)
    unfold intQ
    rw [decide_eq_true h, show (-((k : Nat) : Int)).natAbs = k from by omega]
    exact this
  · obtain ⟨k, hk⟩ := Int.eq_ofNat_of_zero_le (show 0 ≤ n by omega)
    subst hk
    have := intP_any (w := w) (k := k) (by omega)
    unfold intQ
    rw [decide_eq_false h, Int.natAbs_natCast]
    exact this
theorem sameFr_any {w : World} {b b' : Bool} {t q t' q' : List Nat} {a1 a2 : Option Addr} {ac1 ac2 : Nat} (ha1 : Sc w a1 ac1 t) (ha2 : Sc w a2 ac2 q) {u1 u2 : Option Addr} {uc1 uc2 : Nat} (hu1 : Sc w u1 uc1 t') (hu2 : Sc w u2 uc2 q') (l1 : t.length ≤ 9223372036854775807) (l2 : q.length ≤ 9223372036854775807) (l3 : t'.length ≤ 9223372036854775807) (l4 : q'.length ≤ 9223372036854775807) {r : Bool} (hr : sameF b t q b' t' q' = r) :
    Calls Try.prog 60 #[.agg #[.bool b, .slice a1 t.length ac1, .slice a2 q.length ac2], .agg #[.bool b', .slice u1 t'.length uc1, .slice u2 q'.length uc2]] w fun e w' => e = .returned (.bool r) ∧ Below w.heap.size w w' := by
  have hS : St w w [] [(u2, q'), (u1, t'), (a2, q), (a1, t)] [] := ((((St.start w).addR ha1.rd).addR ha2.rd).addR hu1.rd).addR hu2.rd
  refine walk_of (l := [(0, .agg #[.bool b, .slice a1 t.length ac1, .slice a2 q.length ac2]), (1, .agg #[.bool b', .slice u1 t'.length uc1, .slice u2 q'.length uc2])]) Try.func60 rfl Try.ntmps60 rfl rfl ?_
  intro Q hret hnorm hP a hA
  refine wp_seq_k (fun K1 hK1 => ?_)
  refine wp_region_lit ?_
  refine seq_new (vs := [.bool b, .slice a1 t.length ac1, .slice a2 q.length ac2]) (t := 24) hA hS rfl rfl rfl (fun g => .pointer (some ⟨g, 0, none⟩)) (does_box rfl rfl) rfl ?_
  intro g2 w3 hS a hA
  refine seq_new (vs := [.bool b', .slice u1 t'.length uc1, .slice u2 q'.length uc2]) (t := 24) hA hS rfl rfl rfl (fun g => .pointer (some ⟨g, 0, none⟩)) (does_box rfl rfl) rfl ?_
  intro g4 w5 hS a hA
  refine seq_do hA rfl rfl rfl (does_assign rfl) ?_
  intro a hA
  refine seq_end ?_
  refine hK1 _ _ ?_
  refine wp_seq_k (fun K6 hK6 => ?_)
  refine wp_region_lit ?_
  refine seq_do (v := .pointer (some ⟨g2, 0, none⟩)) hA rfl rfl rfl (does_field fld_24_0 rfl rfl) ?_
  intro a hA
  refine seq_do hA rfl rfl rfl (does_load1 hS is1_4 rfl 1 rfl rfl) ?_
  intro a hA
  refine seq_do (v := .pointer (some ⟨g4, 0, none⟩)) hA rfl rfl rfl (does_field fld_24_0 rfl rfl) ?_
  intro a hA
  refine seq_do hA rfl rfl rfl (does_load1 hS is1_4 rfl 0 rfl rfl) ?_
  intro a hA
  rcases Bool.eq_false_or_eq_true ((b == b')) with hb7 | hb7
  · have hb7' := eq_of_beq hb7
    refine seq_do (v := .bool true) hA rfl rfl rfl (does_bin rfl rfl (fun w => ((bin_eqlB Try.underlying4) w).trans (by rw [hb7]))) ?_
    intro a hA
    refine seq_do hA rfl rfl rfl (does_move rfl) ?_
    intro a hA
    refine seq_do (v := .pointer (some ⟨g2, 1, none⟩)) hA rfl rfl rfl (does_field fld_24_1 rfl rfl) ?_
    intro a hA
    refine seq_do hA rfl rfl rfl (does_load1 hS is1_22 rfl 1 rfl rfl) ?_
    intro a hA
    refine seq_do (v := .pointer (some ⟨g4, 1, none⟩)) hA rfl rfl rfl (does_field fld_24_1 rfl rfl) ?_
    intro a hA
    refine seq_do hA rfl rfl rfl (does_load1 hS is1_22 rfl 0 rfl rfl) ?_
    intro a hA
    rcases Bool.eq_false_or_eq_true (decide (t = t')) with hb8 | hb8
    · have hb8' := of_decide_eq_true hb8
      refine seq_call hA rfl rfl rfl (enters_func  rfl rfl (fun w => by kernel_rfl)) (equalB_any _ _ (hS.rd 3 rfl) (hS.rd 1 rfl) l1 l3 hb8) ?_
      rintro _ w10 ⟨rfl, hb9⟩
      replace hS := hS.call hb9
      refine ⟨_, rfl, ?_⟩
      intro a hA
      refine seq_do (v := .bool true) hA rfl rfl rfl (does_pick rfl rfl rfl rfl) ?_
      intro a hA
      refine seq_do hA rfl rfl rfl (does_move rfl) ?_
      intro a hA
      refine seq_do (v := .pointer (some ⟨g2, 2, none⟩)) hA rfl rfl rfl (does_field fld_24_2 rfl rfl) ?_
      intro a hA
      refine seq_do hA rfl rfl rfl (does_load1 hS is1_22 rfl 1 rfl rfl) ?_
      intro a hA
      refine seq_do (v := .pointer (some ⟨g4, 2, none⟩)) hA rfl rfl rfl (does_field fld_24_2 rfl rfl) ?_
      intro a hA
      refine seq_do hA rfl rfl rfl (does_load1 hS is1_22 rfl 0 rfl rfl) ?_
      intro a hA
      rcases Bool.eq_false_or_eq_true (decide (q = q')) with hb11 | hb11
      · have hb11' := of_decide_eq_true hb11
        refine seq_call hA rfl rfl rfl (enters_func  rfl rfl (fun w => by kernel_rfl)) (equalB_any _ _ (hS.rd 2 rfl) (hS.rd 0 rfl) l2 l4 hb11) ?_
        rintro _ w13 ⟨rfl, hb12⟩
        replace hS := hS.call hb12
        refine ⟨_, rfl, ?_⟩
        intro a hA
        refine seq_do (v := .bool true) hA rfl rfl rfl (does_pick rfl rfl rfl rfl) ?_
        intro a hA
        refine seq_do hA rfl rfl rfl (does_assign rfl) ?_
        intro a hA
        refine seq_end ?_
        refine hK6 _ _ ?_
        refine wp_ret ?_
        refine hret _ _ ?_
        refine ends (v := .bool true) hA rfl (.cons (res_tmp rfl) .nil) rfl ?_
        subst hr
        exact ⟨by unfold sameF; rw [hb7, hb8, hb11]; try rfl, hS.bel⟩
      · have hb11' := of_decide_eq_false hb11
        refine seq_call hA rfl rfl rfl (enters_func  rfl rfl (fun w => by kernel_rfl)) (equalB_any _ _ (hS.rd 2 rfl) (hS.rd 0 rfl) l2 l4 hb11) ?_
        rintro _ w15 ⟨rfl, hb14⟩
        replace hS := hS.call hb14
        refine ⟨_, rfl, ?_⟩
        intro a hA
        refine seq_do (v := .bool false) hA rfl rfl rfl (does_pick rfl rfl rfl rfl) ?_
        intro a hA
        refine seq_do hA rfl rfl rfl (does_assign rfl) ?_
        intro a hA
        refine seq_end ?_
        refine hK6 _ _ ?_
        refine wp_ret ?_
        refine hret _ _ ?_
        refine ends (v := .bool false) hA rfl (.cons (res_tmp rfl) .nil) rfl ?_
        subst hr
        exact ⟨by unfold sameF; rw [hb7, hb8, hb11]; try rfl, hS.bel⟩
    · have hb8' := of_decide_eq_false hb8
      refine seq_call hA rfl rfl rfl (enters_func  rfl rfl (fun w => by kernel_rfl)) (equalB_any _ _ (hS.rd 3 rfl) (hS.rd 1 rfl) l1 l3 hb8) ?_
      rintro _ w17 ⟨rfl, hb16⟩
      replace hS := hS.call hb16
      refine ⟨_, rfl, ?_⟩
      intro a hA
      refine seq_do (v := .bool false) hA rfl rfl rfl (does_pick rfl rfl rfl rfl) ?_
      intro a hA
      refine seq_do hA rfl rfl rfl (does_move rfl) ?_
      intro a hA
      refine seq_skip hA rfl rfl rfl ?_
      intro a hA
      refine seq_skip hA rfl rfl rfl ?_
      intro a hA
      refine seq_skip hA rfl rfl rfl ?_
      intro a hA
      refine seq_skip hA rfl rfl rfl ?_
      intro a hA
      refine seq_skip hA rfl rfl rfl ?_
      intro a hA
      refine seq_do (v := .bool false) hA rfl rfl rfl (does_pick rfl rfl rfl rfl) ?_
      intro a hA
      refine seq_do hA rfl rfl rfl (does_assign rfl) ?_
      intro a hA
      refine seq_end ?_
      refine hK6 _ _ ?_
      refine wp_ret ?_
      refine hret _ _ ?_
      refine ends (v := .bool false) hA rfl (.cons (res_tmp rfl) .nil) rfl ?_
      subst hr
      exact ⟨by unfold sameF; rw [hb7, hb8]; try rfl, hS.bel⟩
  · have hb7' := ne_of_beq_false hb7
    refine seq_do (v := .bool false) hA rfl rfl rfl (does_bin rfl rfl (fun w => ((bin_eqlB Try.underlying4) w).trans (by rw [hb7]))) ?_
    intro a hA
    refine seq_do hA rfl rfl rfl (does_move rfl) ?_
    intro a hA
    refine seq_skip hA rfl rfl rfl ?_
    intro a hA
    refine seq_skip hA rfl rfl rfl ?_
    intro a hA
    refine seq_skip hA rfl rfl rfl ?_
    intro a hA
    refine seq_skip hA rfl rfl rfl ?_
    intro a hA
    refine seq_skip hA rfl rfl rfl ?_
    intro a hA
    refine seq_do (v := .bool false) hA rfl rfl rfl (does_pick rfl rfl rfl rfl) ?_
    intro a hA
    refine seq_do hA rfl rfl rfl (does_move rfl) ?_
    intro a hA
    refine seq_skip hA rfl rfl rfl ?_
    intro a hA
    refine seq_skip hA rfl rfl rfl ?_
    intro a hA
    refine seq_skip hA rfl rfl rfl ?_
    intro a hA
    refine seq_skip hA rfl rfl rfl ?_
    intro a hA
    refine seq_skip hA rfl rfl rfl ?_
    intro a hA
    refine seq_do (v := .bool false) hA rfl rfl rfl (does_pick rfl rfl rfl rfl) ?_
    intro a hA
    refine seq_do hA rfl rfl rfl (does_assign rfl) ?_
    intro a hA
    refine seq_end ?_
    refine hK6 _ _ ?_
    refine wp_ret ?_
    refine hret _ _ ?_
    refine ends (v := .bool false) hA rfl (.cons (res_tmp rfl) .nil) rfl ?_
    subst hr
    exact ⟨by unfold sameF; rw [hb7]; try rfl, hS.bel⟩
theorem ratSame_any {w : World} {b b' : Bool} {t q t' q' : List Nat} {a1 a2 : Option Addr} {ac1 ac2 : Nat} (ha1 : Sc w a1 ac1 t) (ha2 : Sc w a2 ac2 q) {u1 u2 : Option Addr} {uc1 uc2 : Nat} (hu1 : Sc w u1 uc1 t') (hu2 : Sc w u2 uc2 q') (l1 : t.length ≤ 9223372036854775807) (l2 : q.length ≤ 9223372036854775807) (l3 : t'.length ≤ 9223372036854775807) (l4 : q'.length ≤ 9223372036854775807) {r : Bool} (hr : sameF b t q b' t' q' = r) :
    Calls Try.prog 36 #[.agg #[.bool b, .slice a1 t.length ac1, .slice a2 q.length ac2], .agg #[.bool b', .slice u1 t'.length uc1, .slice u2 q'.length uc2]] w fun e w' => e = .returned (.bool r) ∧ Below w.heap.size w w' := by
  have hS : St w w [] [(u2, q'), (u1, t'), (a2, q), (a1, t)] [] := ((((St.start w).addR ha1.rd).addR ha2.rd).addR hu1.rd).addR hu2.rd
  refine walk_of (l := [(0, .agg #[.bool b, .slice a1 t.length ac1, .slice a2 q.length ac2]), (1, .agg #[.bool b', .slice u1 t'.length uc1, .slice u2 q'.length uc2])]) Try.func36 rfl Try.ntmps36 rfl rfl ?_
  intro Q hret hnorm hP a hA
  refine wp_seq_k (fun K1 hK1 => ?_)
  refine wp_region_lit ?_
  refine seq_new (vs := [.bool b, .slice a1 t.length ac1, .slice a2 q.length ac2]) (t := 24) hA hS rfl rfl rfl (fun g => .pointer (some ⟨g, 0, none⟩)) (does_box rfl rfl) rfl ?_
  intro g2 w3 hS a hA
  refine seq_new (vs := [.bool b', .slice u1 t'.length uc1, .slice u2 q'.length uc2]) (t := 24) hA hS rfl rfl rfl (fun g => .pointer (some ⟨g, 0, none⟩)) (does_box rfl rfl) rfl ?_
  intro g4 w5 hS a hA
  refine seq_do hA rfl rfl rfl (does_assign rfl) ?_
  intro a hA
  refine seq_end ?_
  refine hK1 _ _ ?_
  refine wp_seq_k (fun K6 hK6 => ?_)
  refine wp_region_lit ?_
  refine seq_do (v := .pointer (some ⟨g2, 0, none⟩)) hA rfl rfl rfl (does_field fld_24_0 rfl rfl) ?_
  intro a hA
  refine seq_do hA rfl rfl rfl (does_load1 hS is1_4 rfl 1 rfl rfl) ?_
  intro a hA
  refine seq_do (v := .pointer (some ⟨g4, 0, none⟩)) hA rfl rfl rfl (does_field fld_24_0 rfl rfl) ?_
  intro a hA
  refine seq_do hA rfl rfl rfl (does_load1 hS is1_4 rfl 0 rfl rfl) ?_
  intro a hA
  rcases Bool.eq_false_or_eq_true ((b == b')) with hb7 | hb7
  · have hb7' := eq_of_beq hb7
    refine seq_do (v := .bool true) hA rfl rfl rfl (does_bin rfl rfl (fun w => ((bin_eqlB Try.underlying4) w).trans (by rw [hb7]))) ?_
    intro a hA
    refine seq_do hA rfl rfl rfl (does_move rfl) ?_
    intro a hA
    refine seq_do (v := .pointer (some ⟨g2, 1, none⟩)) hA rfl rfl rfl (does_field fld_24_1 rfl rfl) ?_
    intro a hA
    refine seq_do hA rfl rfl rfl (does_load1 hS is1_22 rfl 1 rfl rfl) ?_
    intro a hA
    refine seq_do (v := .pointer (some ⟨g4, 1, none⟩)) hA rfl rfl rfl (does_field fld_24_1 rfl rfl) ?_
    intro a hA
    refine seq_do hA rfl rfl rfl (does_load1 hS is1_22 rfl 0 rfl rfl) ?_
    intro a hA
    rcases Bool.eq_false_or_eq_true (decide (t = t')) with hb8 | hb8
    · have hb8' := of_decide_eq_true hb8
      refine seq_call hA rfl rfl rfl (enters_func  rfl rfl (fun w => by kernel_rfl)) (rsameB_any _ _ (hS.rd 3 rfl) (hS.rd 1 rfl) l1 l3 hb8) ?_
      rintro _ w10 ⟨rfl, hb9⟩
      replace hS := hS.call hb9
      refine ⟨_, rfl, ?_⟩
      intro a hA
      refine seq_do (v := .bool true) hA rfl rfl rfl (does_pick rfl rfl rfl rfl) ?_
      intro a hA
      refine seq_do hA rfl rfl rfl (does_move rfl) ?_
      intro a hA
      refine seq_do (v := .pointer (some ⟨g2, 2, none⟩)) hA rfl rfl rfl (does_field fld_24_2 rfl rfl) ?_
      intro a hA
      refine seq_do hA rfl rfl rfl (does_load1 hS is1_22 rfl 1 rfl rfl) ?_
      intro a hA
      refine seq_do (v := .pointer (some ⟨g4, 2, none⟩)) hA rfl rfl rfl (does_field fld_24_2 rfl rfl) ?_
      intro a hA
      refine seq_do hA rfl rfl rfl (does_load1 hS is1_22 rfl 0 rfl rfl) ?_
      intro a hA
      rcases Bool.eq_false_or_eq_true (decide (q = q')) with hb11 | hb11
      · have hb11' := of_decide_eq_true hb11
        refine seq_call hA rfl rfl rfl (enters_func  rfl rfl (fun w => by kernel_rfl)) (rsameB_any _ _ (hS.rd 2 rfl) (hS.rd 0 rfl) l2 l4 hb11) ?_
        rintro _ w13 ⟨rfl, hb12⟩
        replace hS := hS.call hb12
        refine ⟨_, rfl, ?_⟩
        intro a hA
        refine seq_do (v := .bool true) hA rfl rfl rfl (does_pick rfl rfl rfl rfl) ?_
        intro a hA
        refine seq_do hA rfl rfl rfl (does_assign rfl) ?_
        intro a hA
        refine seq_end ?_
        refine hK6 _ _ ?_
        refine wp_ret ?_
        refine hret _ _ ?_
        refine ends (v := .bool true) hA rfl (.cons (res_tmp rfl) .nil) rfl ?_
        subst hr
        exact ⟨by unfold sameF; rw [hb7, hb8, hb11]; try rfl, hS.bel⟩
      · have hb11' := of_decide_eq_false hb11
        refine seq_call hA rfl rfl rfl (enters_func  rfl rfl (fun w => by kernel_rfl)) (rsameB_any _ _ (hS.rd 2 rfl) (hS.rd 0 rfl) l2 l4 hb11) ?_
        rintro _ w15 ⟨rfl, hb14⟩
        replace hS := hS.call hb14
        refine ⟨_, rfl, ?_⟩
        intro a hA
        refine seq_do (v := .bool false) hA rfl rfl rfl (does_pick rfl rfl rfl rfl) ?_
        intro a hA
        refine seq_do hA rfl rfl rfl (does_assign rfl) ?_
        intro a hA
        refine seq_end ?_
        refine hK6 _ _ ?_
        refine wp_ret ?_
        refine hret _ _ ?_
        refine ends (v := .bool false) hA rfl (.cons (res_tmp rfl) .nil) rfl ?_
        subst hr
        exact ⟨by unfold sameF; rw [hb7, hb8, hb11]; try rfl, hS.bel⟩
    · have hb8' := of_decide_eq_false hb8
      refine seq_call hA rfl rfl rfl (enters_func  rfl rfl (fun w => by kernel_rfl)) (rsameB_any _ _ (hS.rd 3 rfl) (hS.rd 1 rfl) l1 l3 hb8) ?_
      rintro _ w17 ⟨rfl, hb16⟩
      replace hS := hS.call hb16
      refine ⟨_, rfl, ?_⟩
      intro a hA
      refine seq_do (v := .bool false) hA rfl rfl rfl (does_pick rfl rfl rfl rfl) ?_
      intro a hA
      refine seq_do hA rfl rfl rfl (does_move rfl) ?_
      intro a hA
      refine seq_skip hA rfl rfl rfl ?_
      intro a hA
      refine seq_skip hA rfl rfl rfl ?_
      intro a hA
      refine seq_skip hA rfl rfl rfl ?_
      intro a hA
      refine seq_skip hA rfl rfl rfl ?_
      intro a hA
      refine seq_skip hA rfl rfl rfl ?_
      intro a hA
      refine seq_do (v := .bool false) hA rfl rfl rfl (does_pick rfl rfl rfl rfl) ?_
      intro a hA
      refine seq_do hA rfl rfl rfl (does_assign rfl) ?_
      intro a hA
      refine seq_end ?_
      refine hK6 _ _ ?_
      refine wp_ret ?_
      refine hret _ _ ?_
      refine ends (v := .bool false) hA rfl (.cons (res_tmp rfl) .nil) rfl ?_
      subst hr
      exact ⟨by unfold sameF; rw [hb7, hb8]; try rfl, hS.bel⟩
  · have hb7' := ne_of_beq_false hb7
    refine seq_do (v := .bool false) hA rfl rfl rfl (does_bin rfl rfl (fun w => ((bin_eqlB Try.underlying4) w).trans (by rw [hb7]))) ?_
    intro a hA
    refine seq_do hA rfl rfl rfl (does_move rfl) ?_
    intro a hA
    refine seq_skip hA rfl rfl rfl ?_
    intro a hA
    refine seq_skip hA rfl rfl rfl ?_
    intro a hA
    refine seq_skip hA rfl rfl rfl ?_
    intro a hA
    refine seq_skip hA rfl rfl rfl ?_
    intro a hA
    refine seq_skip hA rfl rfl rfl ?_
    intro a hA
    refine seq_do (v := .bool false) hA rfl rfl rfl (does_pick rfl rfl rfl rfl) ?_
    intro a hA
    refine seq_do hA rfl rfl rfl (does_move rfl) ?_
    intro a hA
    refine seq_skip hA rfl rfl rfl ?_
    intro a hA
    refine seq_skip hA rfl rfl rfl ?_
    intro a hA
    refine seq_skip hA rfl rfl rfl ?_
    intro a hA
    refine seq_skip hA rfl rfl rfl ?_
    intro a hA
    refine seq_skip hA rfl rfl rfl ?_
    intro a hA
    refine seq_do (v := .bool false) hA rfl rfl rfl (does_pick rfl rfl rfl rfl) ?_
    intro a hA
    refine seq_do hA rfl rfl rfl (does_assign rfl) ?_
    intro a hA
    refine seq_end ?_
    refine hK6 _ _ ?_
    refine wp_ret ?_
    refine hret _ _ ?_
    refine ends (v := .bool false) hA rfl (.cons (res_tmp rfl) .nil) rfl ?_
    subst hr
    exact ⟨by unfold sameF; rw [hb7]; try rfl, hS.bel⟩
theorem sameQ_any {w : World} {p q : Q6} {a1 a2 a3 a4 : Option Addr} {ac1 ac2 ac3 ac4 : Nat} (ha : Nm w p a1 ac1 a2 ac2 a3 ac3 a4 ac4) (hl : LenQ p) {u1 u2 u3 u4 : Option Addr} {uc1 uc2 uc3 uc4 : Nat} (hu : Nm w q u1 uc1 u2 uc2 u3 uc3 u4 uc4) (hm : LenQ q) {r : Bool} (hr : sameQ p q = r) : Calls Try.prog 35 #[numV p a1 ac1 a2 ac2 a3 ac3 a4 ac4, numV q u1 uc1 u2 uc2 u3 uc3 u4 uc4] w fun e w' => e = .returned (.bool r) ∧ Below w.heap.size w w' := by
  have hS : St w w [] [(u4, q.q2), (u3, q.t2), (u2, q.q1), (u1, q.t1), (a4, p.q2), (a3, p.t2), (a2, p.q1), (a1, p.t1)] [] := ((((((((St.start w).addR ha.s1.rd).addR ha.s2.rd).addR ha.s3.rd).addR ha.s4.rd).addR hu.s1.rd).addR hu.s2.rd).addR hu.s3.rd).addR hu.s4.rd
  refine walk_of (l := [(0, .agg #[.bool p.b1, .slice a1 p.t1.length ac1, .slice a2 p.q1.length ac2, .bool p.b2, .slice a3 p.t2.length ac3, .slice a4 p.q2.length ac4]), (1, .agg #[.bool q.b1, .slice u1 q.t1.length uc1, .slice u2 q.q1.length uc2, .bool q.b2, .slice u3 q.t2.length uc3, .slice u4 q.q2.length uc4])]) Try.func35 rfl Try.ntmps35 rfl rfl ?_
  intro Q hret hnorm hP a hA
  refine wp_seq_k (fun K1 hK1 => ?_)
  refine wp_region_lit ?_
  refine seq_new (vs := [.bool p.b1, .slice a1 p.t1.length ac1, .slice a2 p.q1.length ac2, .bool p.b2, .slice a3 p.t2.length ac3, .slice a4 p.q2.length ac4]) (t := 26) hA hS rfl rfl rfl (fun g => .pointer (some ⟨g, 0, none⟩)) (does_box rfl rfl) rfl ?_
  intro g2 w3 hS a hA
  refine seq_new (vs := [.bool q.b1, .slice u1 q.t1.length uc1, .slice u2 q.q1.length uc2, .bool q.b2, .slice u3 q.t2.length uc3, .slice u4 q.q2.length uc4]) (t := 26) hA hS rfl rfl rfl (fun g => .pointer (some ⟨g, 0, none⟩)) (does_box rfl rfl) rfl ?_
  intro g4 w5 hS a hA
  refine seq_do hA rfl rfl rfl (does_assign rfl) ?_
  intro a hA
  refine seq_end ?_
  refine hK1 _ _ ?_
  refine wp_seq_k (fun K6 hK6 => ?_)
  refine wp_region_lit ?_
  refine seq_do (v := .agg #[.bool p.b1, .slice a1 p.t1.length ac1, .slice a2 p.q1.length ac2, .bool p.b2, .slice a3 p.t2.length ac3, .slice a4 p.q2.length ac4]) hA rfl rfl rfl (does_loadS hS isS_26 rfl 1 rfl (cs := [.bool p.b1, .slice a1 p.t1.length ac1, .slice a2 p.q1.length ac2, .bool p.b2, .slice a3 p.t2.length ac3, .slice a4 p.q2.length ac4]) rfl rfl) ?_
  intro a hA
  rcases Bool.eq_false_or_eq_true (soundQ p) with hb7 | hb7
  · refine seq_call hA rfl rfl rfl (enters_func  rfl rfl (fun w => by kernel_rfl)) (soundQ_any (show Nm _ _ a1 ac1 a2 ac2 a3 ac3 a4 ac4 from ⟨⟨(hS.rd 7 rfl), ha.s1.nil, ha.s1.cap⟩, ⟨(hS.rd 6 rfl), ha.s2.nil, ha.s2.cap⟩, ⟨(hS.rd 5 rfl), ha.s3.nil, ha.s3.cap⟩, ⟨(hS.rd 4 rfl), ha.s4.nil, ha.s4.cap⟩⟩) hl hb7) ?_
    rintro _ w9 ⟨rfl, hb8⟩
    replace hS := hS.call hb8
    refine ⟨_, rfl, ?_⟩
    intro a hA
    refine seq_do hA rfl rfl rfl (does_move rfl) ?_
    intro a hA
    refine seq_do (v := .agg #[.bool q.b1, .slice u1 q.t1.length uc1, .slice u2 q.q1.length uc2, .bool q.b2, .slice u3 q.t2.length uc3, .slice u4 q.q2.length uc4]) hA rfl rfl rfl (does_loadS hS isS_26 rfl 0 rfl (cs := [.bool q.b1, .slice u1 q.t1.length uc1, .slice u2 q.q1.length uc2, .bool q.b2, .slice u3 q.t2.length uc3, .slice u4 q.q2.length uc4]) rfl rfl) ?_
    intro a hA
    rcases Bool.eq_false_or_eq_true (soundQ q) with hb10 | hb10
    · refine seq_call hA rfl rfl rfl (enters_func  rfl rfl (fun w => by kernel_rfl)) (soundQ_any (show Nm _ _ u1 uc1 u2 uc2 u3 uc3 u4 uc4 from ⟨⟨(hS.rd 3 rfl), hu.s1.nil, hu.s1.cap⟩, ⟨(hS.rd 2 rfl), hu.s2.nil, hu.s2.cap⟩, ⟨(hS.rd 1 rfl), hu.s3.nil, hu.s3.cap⟩, ⟨(hS.rd 0 rfl), hu.s4.nil, hu.s4.cap⟩⟩) hm hb10) ?_
      rintro _ w12 ⟨rfl, hb11⟩
      replace hS := hS.call hb11
      refine ⟨_, rfl, ?_⟩
      intro a hA
      refine seq_do (v := .bool true) hA rfl rfl rfl (does_pick rfl rfl rfl rfl) ?_
      intro a hA
      refine seq_do hA rfl rfl rfl (does_move rfl) ?_
      intro a hA
      refine seq_do (v := .pointer (some ⟨g2, 0, none⟩)) hA rfl rfl rfl (does_field fld_26_0 rfl rfl) ?_
      intro a hA
      refine seq_do (v := .agg #[.bool p.b1, .slice a1 p.t1.length ac1, .slice a2 p.q1.length ac2]) hA rfl rfl rfl (does_loadS hS isS_24 rfl 1 rfl (cs := [.bool p.b1, .slice a1 p.t1.length ac1, .slice a2 p.q1.length ac2]) rfl rfl) ?_
      intro a hA
      refine seq_do (v := .pointer (some ⟨g4, 0, none⟩)) hA rfl rfl rfl (does_field fld_26_0 rfl rfl) ?_
      intro a hA
      refine seq_do (v := .agg #[.bool q.b1, .slice u1 q.t1.length uc1, .slice u2 q.q1.length uc2]) hA rfl rfl rfl (does_loadS hS isS_24 rfl 0 rfl (cs := [.bool q.b1, .slice u1 q.t1.length uc1, .slice u2 q.q1.length uc2]) rfl rfl) ?_
      intro a hA
      rcases Bool.eq_false_or_eq_true (sameF p.b1 p.t1 p.q1 q.b1 q.t1 q.q1) with hb13 | hb13
      · refine seq_call hA rfl rfl rfl (enters_func  rfl rfl (fun w => by kernel_rfl)) (sameFr_any ⟨(hS.rd 7 rfl), ha.s1.nil, ha.s1.cap⟩ ⟨(hS.rd 6 rfl), ha.s2.nil, ha.s2.cap⟩ ⟨(hS.rd 3 rfl), hu.s1.nil, hu.s1.cap⟩ ⟨(hS.rd 2 rfl), hu.s2.nil, hu.s2.cap⟩ hl.l1 hl.l2 hm.l1 hm.l2 hb13) ?_
        rintro _ w15 ⟨rfl, hb14⟩
        replace hS := hS.call hb14
        refine ⟨_, rfl, ?_⟩
        intro a hA
        refine seq_do (v := .bool true) hA rfl rfl rfl (does_pick rfl rfl rfl rfl) ?_
        intro a hA
        refine seq_do hA rfl rfl rfl (does_move rfl) ?_
        intro a hA
        refine seq_do (v := .pointer (some ⟨g2, 3, none⟩)) hA rfl rfl rfl (does_field fld_26_1 rfl rfl) ?_
        intro a hA
        refine seq_do (v := .agg #[.bool p.b2, .slice a3 p.t2.length ac3, .slice a4 p.q2.length ac4]) hA rfl rfl rfl (does_loadS hS isS_24 rfl 1 rfl (cs := [.bool p.b2, .slice a3 p.t2.length ac3, .slice a4 p.q2.length ac4]) rfl rfl) ?_
        intro a hA
        refine seq_do (v := .pointer (some ⟨g4, 3, none⟩)) hA rfl rfl rfl (does_field fld_26_1 rfl rfl) ?_
        intro a hA
        refine seq_do (v := .agg #[.bool q.b2, .slice u3 q.t2.length uc3, .slice u4 q.q2.length uc4]) hA rfl rfl rfl (does_loadS hS isS_24 rfl 0 rfl (cs := [.bool q.b2, .slice u3 q.t2.length uc3, .slice u4 q.q2.length uc4]) rfl rfl) ?_
        intro a hA
        rcases Bool.eq_false_or_eq_true (sameF p.b2 p.t2 p.q2 q.b2 q.t2 q.q2) with hb16 | hb16
        · refine seq_call hA rfl rfl rfl (enters_func  rfl rfl (fun w => by kernel_rfl)) (sameFr_any ⟨(hS.rd 5 rfl), ha.s3.nil, ha.s3.cap⟩ ⟨(hS.rd 4 rfl), ha.s4.nil, ha.s4.cap⟩ ⟨(hS.rd 1 rfl), hu.s3.nil, hu.s3.cap⟩ ⟨(hS.rd 0 rfl), hu.s4.nil, hu.s4.cap⟩ hl.l3 hl.l4 hm.l3 hm.l4 hb16) ?_
          rintro _ w18 ⟨rfl, hb17⟩
          replace hS := hS.call hb17
          refine ⟨_, rfl, ?_⟩
          intro a hA
          refine seq_do (v := .bool true) hA rfl rfl rfl (does_pick rfl rfl rfl rfl) ?_
          intro a hA
          refine seq_do hA rfl rfl rfl (does_assign rfl) ?_
          intro a hA
          refine seq_end ?_
          refine hK6 _ _ ?_
          refine wp_ret ?_
          refine hret _ _ ?_
          refine ends (v := .bool true) hA rfl (.cons (res_tmp rfl) .nil) rfl ?_
          subst hr
          exact ⟨by unfold sameQ; rw [hb7, hb10, hb13, hb16]; try rfl, hS.bel⟩
        · refine seq_call hA rfl rfl rfl (enters_func  rfl rfl (fun w => by kernel_rfl)) (sameFr_any ⟨(hS.rd 5 rfl), ha.s3.nil, ha.s3.cap⟩ ⟨(hS.rd 4 rfl), ha.s4.nil, ha.s4.cap⟩ ⟨(hS.rd 1 rfl), hu.s3.nil, hu.s3.cap⟩ ⟨(hS.rd 0 rfl), hu.s4.nil, hu.s4.cap⟩ hl.l3 hl.l4 hm.l3 hm.l4 hb16) ?_
          rintro _ w20 ⟨rfl, hb19⟩
          replace hS := hS.call hb19
          refine ⟨_, rfl, ?_⟩
          intro a hA
          refine seq_do (v := .bool false) hA rfl rfl rfl (does_pick rfl rfl rfl rfl) ?_
          intro a hA
          refine seq_do hA rfl rfl rfl (does_assign rfl) ?_
          intro a hA
          refine seq_end ?_
          refine hK6 _ _ ?_
          refine wp_ret ?_
          refine hret _ _ ?_
          refine ends (v := .bool false) hA rfl (.cons (res_tmp rfl) .nil) rfl ?_
          subst hr
          exact ⟨by unfold sameQ; rw [hb7, hb10, hb13, hb16]; try rfl, hS.bel⟩
      · refine seq_call hA rfl rfl rfl (enters_func  rfl rfl (fun w => by kernel_rfl)) (sameFr_any ⟨(hS.rd 7 rfl), ha.s1.nil, ha.s1.cap⟩ ⟨(hS.rd 6 rfl), ha.s2.nil, ha.s2.cap⟩ ⟨(hS.rd 3 rfl), hu.s1.nil, hu.s1.cap⟩ ⟨(hS.rd 2 rfl), hu.s2.nil, hu.s2.cap⟩ hl.l1 hl.l2 hm.l1 hm.l2 hb13) ?_
        rintro _ w22 ⟨rfl, hb21⟩
        replace hS := hS.call hb21
        refine ⟨_, rfl, ?_⟩
        intro a hA
        refine seq_do (v := .bool false) hA rfl rfl rfl (does_pick rfl rfl rfl rfl) ?_
        intro a hA
        refine seq_do hA rfl rfl rfl (does_move rfl) ?_
        intro a hA
        refine seq_skip hA rfl rfl rfl ?_
        intro a hA
        refine seq_skip hA rfl rfl rfl ?_
        intro a hA
        refine seq_skip hA rfl rfl rfl ?_
        intro a hA
        refine seq_skip hA rfl rfl rfl ?_
        intro a hA
        refine seq_skip hA rfl rfl rfl ?_
        intro a hA
        refine seq_do (v := .bool false) hA rfl rfl rfl (does_pick rfl rfl rfl rfl) ?_
        intro a hA
        refine seq_do hA rfl rfl rfl (does_assign rfl) ?_
        intro a hA
        refine seq_end ?_
        refine hK6 _ _ ?_
        refine wp_ret ?_
        refine hret _ _ ?_
        refine ends (v := .bool false) hA rfl (.cons (res_tmp rfl) .nil) rfl ?_
        subst hr
        exact ⟨by unfold sameQ; rw [hb7, hb10, hb13]; try rfl, hS.bel⟩
    · refine seq_call hA rfl rfl rfl (enters_func  rfl rfl (fun w => by kernel_rfl)) (soundQ_any (show Nm _ _ u1 uc1 u2 uc2 u3 uc3 u4 uc4 from ⟨⟨(hS.rd 3 rfl), hu.s1.nil, hu.s1.cap⟩, ⟨(hS.rd 2 rfl), hu.s2.nil, hu.s2.cap⟩, ⟨(hS.rd 1 rfl), hu.s3.nil, hu.s3.cap⟩, ⟨(hS.rd 0 rfl), hu.s4.nil, hu.s4.cap⟩⟩) hm hb10) ?_
      rintro _ w24 ⟨rfl, hb23⟩
      replace hS := hS.call hb23
      refine ⟨_, rfl, ?_⟩
      intro a hA
      refine seq_do (v := .bool false) hA rfl rfl rfl (does_pick rfl rfl rfl rfl) ?_
      intro a hA
      refine seq_do hA rfl rfl rfl (does_move rfl) ?_
      intro a hA
      refine seq_skip hA rfl rfl rfl ?_
      intro a hA
      refine seq_skip hA rfl rfl rfl ?_
      intro a hA
      refine seq_skip hA rfl rfl rfl ?_
      intro a hA
      refine seq_skip hA rfl rfl rfl ?_
      intro a hA
      refine seq_skip hA rfl rfl rfl ?_
      intro a hA
      refine seq_do (v := .bool false) hA rfl rfl rfl (does_pick rfl rfl rfl rfl) ?_
      intro a hA
      refine seq_do hA rfl rfl rfl (does_move rfl) ?_
      intro a hA
      refine seq_skip hA rfl rfl rfl ?_
      intro a hA
      refine seq_skip hA rfl rfl rfl ?_
      intro a hA
      refine seq_skip hA rfl rfl rfl ?_
      intro a hA
      refine seq_skip hA rfl rfl rfl ?_
      intro a hA
      refine seq_skip hA rfl rfl rfl ?_
      intro a hA
      refine seq_do (v := .bool false) hA rfl rfl rfl (does_pick rfl rfl rfl rfl) ?_
      intro a hA
      refine seq_do hA rfl rfl rfl (does_assign rfl) ?_
      intro a hA
      refine seq_end ?_
      refine hK6 _ _ ?_
      refine wp_ret ?_
      refine hret _ _ ?_
      refine ends (v := .bool false) hA rfl (.cons (res_tmp rfl) .nil) rfl ?_
      subst hr
      exact ⟨by unfold sameQ; rw [hb7, hb10]; try rfl, hS.bel⟩
  · refine seq_call hA rfl rfl rfl (enters_func  rfl rfl (fun w => by kernel_rfl)) (soundQ_any (show Nm _ _ a1 ac1 a2 ac2 a3 ac3 a4 ac4 from ⟨⟨(hS.rd 7 rfl), ha.s1.nil, ha.s1.cap⟩, ⟨(hS.rd 6 rfl), ha.s2.nil, ha.s2.cap⟩, ⟨(hS.rd 5 rfl), ha.s3.nil, ha.s3.cap⟩, ⟨(hS.rd 4 rfl), ha.s4.nil, ha.s4.cap⟩⟩) hl hb7) ?_
    rintro _ w26 ⟨rfl, hb25⟩
    replace hS := hS.call hb25
    refine ⟨_, rfl, ?_⟩
    intro a hA
    refine seq_do hA rfl rfl rfl (does_move rfl) ?_
    intro a hA
    refine seq_skip hA rfl rfl rfl ?_
    intro a hA
    refine seq_skip hA rfl rfl rfl ?_
    intro a hA
    refine seq_do (v := .bool false) hA rfl rfl rfl (does_pick rfl rfl rfl rfl) ?_
    intro a hA
    refine seq_do hA rfl rfl rfl (does_move rfl) ?_
    intro a hA
    refine seq_skip hA rfl rfl rfl ?_
    intro a hA
    refine seq_skip hA rfl rfl rfl ?_
    intro a hA
    refine seq_skip hA rfl rfl rfl ?_
    intro a hA
    refine seq_skip hA rfl rfl rfl ?_
    intro a hA
    refine seq_skip hA rfl rfl rfl ?_
    intro a hA
    refine seq_do (v := .bool false) hA rfl rfl rfl (does_pick rfl rfl rfl rfl) ?_
    intro a hA
    refine seq_do hA rfl rfl rfl (does_move rfl) ?_
    intro a hA
    refine seq_skip hA rfl rfl rfl ?_
    intro a hA
    refine seq_skip hA rfl rfl rfl ?_
    intro a hA
    refine seq_skip hA rfl rfl rfl ?_
    intro a hA
    refine seq_skip hA rfl rfl rfl ?_
    intro a hA
    refine seq_skip hA rfl rfl rfl ?_
    intro a hA
    refine seq_do (v := .bool false) hA rfl rfl rfl (does_pick rfl rfl rfl rfl) ?_
    intro a hA
    refine seq_do hA rfl rfl rfl (does_assign rfl) ?_
    intro a hA
    refine seq_end ?_
    refine hK6 _ _ ?_
    refine wp_ret ?_
    refine hret _ _ ?_
    refine ends (v := .bool false) hA rfl (.cons (res_tmp rfl) .nil) rfl ?_
    subst hr
    exact ⟨by unfold sameQ; rw [hb7]; try rfl, hS.bel⟩
theorem alike_any {w : World} {q : Q6} {a1 a2 a3 a4 : Option Addr} {ac1 ac2 ac3 ac4 : Nat} (ha : Nm w q a1 ac1 a2 ac2 a3 ac3 a4 ac4) (hl : LenQ q) {u1 u2 u3 u4 : Option Addr} {uc1 uc2 uc3 uc4 : Nat} (hu : Nm w q u1 uc1 u2 uc2 u3 uc3 u4 uc4) : Calls Try.prog 13 #[numV q a1 ac1 a2 ac2 a3 ac3 a4 ac4, numV q u1 uc1 u2 uc2 u3 uc3 u4 uc4] w fun e w' => e = .returned (.bool true) ∧ Below w.heap.size w w' := by
  have hS : St w w [] [(u4, q.q2), (u3, q.t2), (u2, q.q1), (u1, q.t1), (a4, q.q2), (a3, q.t2), (a2, q.q1), (a1, q.t1)] [] := ((((((((St.start w).addR ha.s1.rd).addR ha.s2.rd).addR ha.s3.rd).addR ha.s4.rd).addR hu.s1.rd).addR hu.s2.rd).addR hu.s3.rd).addR hu.s4.rd
  refine walk_of (l := [(0, .agg #[.bool q.b1, .slice a1 q.t1.length ac1, .slice a2 q.q1.length ac2, .bool q.b2, .slice a3 q.t2.length ac3, .slice a4 q.q2.length ac4]), (1, .agg #[.bool q.b1, .slice u1 q.t1.length uc1, .slice u2 q.q1.length uc2, .bool q.b2, .slice u3 q.t2.length uc3, .slice u4 q.q2.length uc4])]) Try.func13 rfl Try.ntmps13 rfl rfl ?_
  intro Q hret hnorm hP a hA
  refine wp_seq_k (fun K1 hK1 => ?_)
  refine wp_region_lit ?_
  refine seq_new (vs := [.bool q.b1, .slice a1 q.t1.length ac1, .slice a2 q.q1.length ac2, .bool q.b2, .slice a3 q.t2.length ac3, .slice a4 q.q2.length ac4]) (t := 26) hA hS rfl rfl rfl (fun g => .pointer (some ⟨g, 0, none⟩)) (does_box rfl rfl) rfl ?_
  intro g2 w3 hS a hA
  refine seq_new (vs := [.bool q.b1, .slice u1 q.t1.length uc1, .slice u2 q.q1.length uc2, .bool q.b2, .slice u3 q.t2.length uc3, .slice u4 q.q2.length uc4]) (t := 26) hA hS rfl rfl rfl (fun g => .pointer (some ⟨g, 0, none⟩)) (does_box rfl rfl) rfl ?_
  intro g4 w5 hS a hA
  refine seq_do hA rfl rfl rfl (does_assign rfl) ?_
  intro a hA
  refine seq_end ?_
  refine hK1 _ _ ?_
  refine wp_seq_k (fun K6 hK6 => ?_)
  refine wp_region_lit ?_
  refine seq_do (v := .pointer (some ⟨g2, 0, none⟩)) hA rfl rfl rfl (does_field fld_26_0 rfl rfl) ?_
  intro a hA
  refine seq_do (v := .agg #[.bool q.b1, .slice a1 q.t1.length ac1, .slice a2 q.q1.length ac2]) hA rfl rfl rfl (does_loadS hS isS_24 rfl 1 rfl (cs := [.bool q.b1, .slice a1 q.t1.length ac1, .slice a2 q.q1.length ac2]) rfl rfl) ?_
  intro a hA
  refine seq_do (v := .pointer (some ⟨g4, 0, none⟩)) hA rfl rfl rfl (does_field fld_26_0 rfl rfl) ?_
  intro a hA
  refine seq_do (v := .agg #[.bool q.b1, .slice u1 q.t1.length uc1, .slice u2 q.q1.length uc2]) hA rfl rfl rfl (does_loadS hS isS_24 rfl 0 rfl (cs := [.bool q.b1, .slice u1 q.t1.length uc1, .slice u2 q.q1.length uc2]) rfl rfl) ?_
  intro a hA
  refine seq_call hA rfl rfl rfl (enters_func  rfl rfl (fun w => by kernel_rfl)) (ratSame_any ⟨(hS.rd 7 rfl), ha.s1.nil, ha.s1.cap⟩ ⟨(hS.rd 6 rfl), ha.s2.nil, ha.s2.cap⟩ ⟨(hS.rd 3 rfl), hu.s1.nil, hu.s1.cap⟩ ⟨(hS.rd 2 rfl), hu.s2.nil, hu.s2.cap⟩ hl.l1 hl.l2 hl.l1 hl.l2 (sameF_refl _ _ _)) ?_
  rintro _ w8 ⟨rfl, hb7⟩
  replace hS := hS.call hb7
  refine ⟨_, rfl, ?_⟩
  intro a hA
  refine seq_do hA rfl rfl rfl (does_move rfl) ?_
  intro a hA
  refine seq_do (v := .pointer (some ⟨g2, 3, none⟩)) hA rfl rfl rfl (does_field fld_26_1 rfl rfl) ?_
  intro a hA
  refine seq_do (v := .agg #[.bool q.b2, .slice a3 q.t2.length ac3, .slice a4 q.q2.length ac4]) hA rfl rfl rfl (does_loadS hS isS_24 rfl 1 rfl (cs := [.bool q.b2, .slice a3 q.t2.length ac3, .slice a4 q.q2.length ac4]) rfl rfl) ?_
  intro a hA
  refine seq_do (v := .pointer (some ⟨g4, 3, none⟩)) hA rfl rfl rfl (does_field fld_26_1 rfl rfl) ?_
  intro a hA
  refine seq_do (v := .agg #[.bool q.b2, .slice u3 q.t2.length uc3, .slice u4 q.q2.length uc4]) hA rfl rfl rfl (does_loadS hS isS_24 rfl 0 rfl (cs := [.bool q.b2, .slice u3 q.t2.length uc3, .slice u4 q.q2.length uc4]) rfl rfl) ?_
  intro a hA
  refine seq_call hA rfl rfl rfl (enters_func  rfl rfl (fun w => by kernel_rfl)) (ratSame_any ⟨(hS.rd 5 rfl), ha.s3.nil, ha.s3.cap⟩ ⟨(hS.rd 4 rfl), ha.s4.nil, ha.s4.cap⟩ ⟨(hS.rd 1 rfl), hu.s3.nil, hu.s3.cap⟩ ⟨(hS.rd 0 rfl), hu.s4.nil, hu.s4.cap⟩ hl.l3 hl.l4 hl.l3 hl.l4 (sameF_refl _ _ _)) ?_
  rintro _ w10 ⟨rfl, hb9⟩
  replace hS := hS.call hb9
  refine ⟨_, rfl, ?_⟩
  intro a hA
  refine seq_do (v := .bool true) hA rfl rfl rfl (does_pick rfl rfl rfl rfl) ?_
  intro a hA
  refine seq_do hA rfl rfl rfl (does_assign rfl) ?_
  intro a hA
  refine seq_end ?_
  refine hK6 _ _ ?_
  refine wp_ret ?_
  refine hret _ _ ?_
  refine ends (v := .bool true) hA rfl (.cons (res_tmp rfl) .nil) rfl ?_
  exact ⟨rfl, hS.bel⟩
theorem awake4_any {w : World} : Calls Try.prog 12 #[] w fun e w' => e = .returned (.bool true) ∧ Below w.heap.size w w' := by
  have hS : St w w [] [] [] := St.start w
  refine walk_of (l := []) Try.func12 rfl Try.ntmps12 rfl rfl ?_
  intro Q hret hnorm hP a hA
  refine wp_seq_k (fun K1 hK1 => ?_)
  refine wp_region_lit ?_
  refine seq_do hA rfl rfl rfl (does_assign rfl) ?_
  intro a hA
  refine seq_end ?_
  refine hK1 _ _ ?_
  refine wp_seq_k (fun K2 hK2 => ?_)
  refine wp_region_lit ?_
  refine seq_call hA rfl rfl rfl (enters_func  rfl rfl (fun w => by kernel_rfl)) ((show Calls Try.prog 34 #[.int .i64 (-1)] _ (AnsV _ (Q6.whole true 1)) from intN_any (k := 1) (by decide) (by decide))) ?_
  rintro _ w6 ⟨p3_1, p3_c1, p3_2, p3_c2, p3_3, p3_c3, p3_4, p3_c4, rfl, hn4, hb5⟩
  replace hS := hS.call hb5
  replace hS := hS.addR hn4.s1.rd
  replace hS := hS.addR hn4.s2.rd
  replace hS := hS.addR hn4.s3.rd
  replace hS := hS.addR hn4.s4.rd
  refine ⟨_, rfl, ?_⟩
  intro a hA
  refine seq_call hA rfl rfl rfl (enters_func  rfl rfl (fun w => by kernel_rfl)) ((show Calls Try.prog 34 #[.int .i64 (5)] _ (AnsV _ (Q6.whole false 5)) from intP_any (k := 5) (by decide))) ?_
  rintro _ w10 ⟨p7_1, p7_c1, p7_2, p7_c2, p7_3, p7_c3, p7_4, p7_c4, rfl, hn8, hb9⟩
  replace hS := hS.call hb9
  replace hS := hS.addR hn8.s1.rd
  replace hS := hS.addR hn8.s2.rd
  replace hS := hS.addR hn8.s3.rd
  replace hS := hS.addR hn8.s4.rd
  refine ⟨_, rfl, ?_⟩
  intro a hA
  refine seq_call hA rfl rfl rfl (enters_func  rfl rfl (fun w => by kernel_rfl)) ((awake_and ▸ andQ_any (p := Q6.whole true 1) (q := Q6.whole false 5) (show Nm _ _ p3_1 p3_c1 p3_2 p3_c2 p3_3 p3_c3 p3_4 p3_c4 from ⟨⟨(hS.rd 7 rfl), hn4.s1.nil, hn4.s1.cap⟩, ⟨(hS.rd 6 rfl), hn4.s2.nil, hn4.s2.cap⟩, ⟨(hS.rd 5 rfl), hn4.s3.nil, hn4.s3.cap⟩, ⟨(hS.rd 4 rfl), hn4.s4.nil, hn4.s4.cap⟩⟩) (lenQ_whole one_len) (show Nm _ _ p7_1 p7_c1 p7_2 p7_c2 p7_3 p7_c3 p7_4 p7_c4 from ⟨⟨(hS.rd 3 rfl), hn8.s1.nil, hn8.s1.cap⟩, ⟨(hS.rd 2 rfl), hn8.s2.nil, hn8.s2.cap⟩, ⟨(hS.rd 1 rfl), hn8.s3.nil, hn8.s3.cap⟩, ⟨(hS.rd 0 rfl), hn8.s4.nil, hn8.s4.cap⟩⟩) (lenQ_whole five_len))) ?_
  rintro _ w14 ⟨p11_1, p11_c1, p11_2, p11_c2, p11_3, p11_c3, p11_4, p11_c4, rfl, hn12, hb13⟩
  replace hS := hS.call hb13
  replace hS := hS.addR hn12.s1.rd
  replace hS := hS.addR hn12.s2.rd
  replace hS := hS.addR hn12.s3.rd
  replace hS := hS.addR hn12.s4.rd
  refine ⟨_, rfl, ?_⟩
  intro a hA
  refine seq_do hA rfl rfl rfl (does_move rfl) ?_
  intro a hA
  refine seq_do (v := .agg #[.bool false, .slice p11_1 ((words 5).length) p11_c1, .slice p11_2 1 p11_c2, .bool false, .slice p11_3 0 p11_c3, .slice p11_4 1 p11_c4]) hA rfl rfl rfl (does_extract (vs := [.agg #[.bool false, .slice p11_1 ((words 5).length) p11_c1, .slice p11_2 1 p11_c2, .bool false, .slice p11_3 0 p11_c3, .slice p11_4 1 p11_c4], .int .i64 0]) rfl rfl) ?_
  intro a hA
  refine seq_do (v := .int .i64 0) hA rfl rfl rfl (does_extract (vs := [.agg #[.bool false, .slice p11_1 ((words 5).length) p11_c1, .slice p11_2 1 p11_c2, .bool false, .slice p11_3 0 p11_c3, .slice p11_4 1 p11_c4], .int .i64 0]) rfl rfl) ?_
  intro a hA
  refine seq_new (vs := [.bool false, .slice none 0 0, .slice none 0 0, .bool false, .slice none 0 0, .slice none 0 0]) (t := 26) hA hS rfl rfl rfl (fun g => .pointer (some ⟨g, 0, none⟩)) (does_alloc (z := .agg #[.bool false, .slice none 0 0, .slice none 0 0, .bool false, .slice none 0 0, .slice none 0 0]) (by kernel_rfl) rfl) rfl ?_
  intro g15 w16 hS a hA
  refine seq_store (us := [.bool false, .slice p11_1 ((words 5).length) p11_c1, .slice p11_2 1 p11_c2, .bool false, .slice p11_3 0 p11_c3, .slice p11_4 1 p11_c4]) hA hS rfl rfl (sets_store (cs := [.bool false, .slice p11_1 ((words 5).length) p11_c1, .slice p11_2 1 p11_c2, .bool false, .slice p11_3 0 p11_c3, .slice p11_4 1 p11_c4]) rfl rfl rfl (by kernel_rfl) hS 0 rfl rfl rfl) 0 rfl rfl rfl rfl ?_
  intro w17 hS
  refine seq_do hA rfl rfl rfl (does_assign rfl) ?_
  intro a hA
  refine seq_end ?_
  refine hK2 _ _ ?_
  refine wp_seq_k (fun K18 hK18 => ?_)
  refine wp_draw (S := fun w1 => St w w1 [(g15, [.bool false, .slice p11_1 ((words 5).length) p11_c1, .slice p11_2 1 p11_c2, .bool false, .slice p11_3 0 p11_c3, .slice p11_4 1 p11_c4])] [(p11_4, [1]), (p11_3, []), (p11_2, [1]), (p11_1, words 5), (p7_4, [1]), (p7_3, []), (p7_2, [1]), (p7_1, words 5), (p3_4, [1]), (p3_3, []), (p3_2, [1]), (p3_1, words 1)] []) (by kernel_rfl) ?_
  replace hS := hS.drew
  refine any_take hA 0 rfl rfl rfl rfl (by kernel_rfl) (by kernel_rfl) (by kernel_rfl) (fun c a w h => hP c a _ _ w h) (hS.part (.cons_cons _ .slnil) ⟨⟨0, rfl⟩, ⟨⟨1, rfl⟩, ⟨⟨2, rfl⟩, ⟨⟨3, rfl⟩, ⟨⟨4, rfl⟩, ⟨⟨5, rfl⟩, ⟨⟨6, rfl⟩, ⟨⟨7, rfl⟩, ⟨⟨8, rfl⟩, ⟨⟨9, rfl⟩, ⟨⟨10, rfl⟩, ⟨⟨11, rfl⟩, trivial⟩⟩⟩⟩⟩⟩⟩⟩⟩⟩⟩⟩ .slnil) (fun w1 hS => does_move rfl) ?_
  intro a hA
  refine any_take (v := .bool true) hA 1 rfl rfl rfl rfl (by kernel_rfl) (by kernel_rfl) (by kernel_rfl) (fun c a w h => hP c a _ _ w h) (hS.part (.cons_cons _ .slnil) ⟨⟨0, rfl⟩, ⟨⟨1, rfl⟩, ⟨⟨2, rfl⟩, ⟨⟨3, rfl⟩, ⟨⟨4, rfl⟩, ⟨⟨5, rfl⟩, ⟨⟨6, rfl⟩, ⟨⟨7, rfl⟩, ⟨⟨8, rfl⟩, ⟨⟨9, rfl⟩, ⟨⟨10, rfl⟩, ⟨⟨11, rfl⟩, trivial⟩⟩⟩⟩⟩⟩⟩⟩⟩⟩⟩⟩ .slnil) (fun w1 hS => does_bin rfl rfl (fun w => by kernel_rfl)) ?_
  intro a hA
  refine any_take hA 2 rfl rfl rfl rfl (by kernel_rfl) (by kernel_rfl) (by kernel_rfl) (fun c a w h => hP c a _ _ w h) (hS.part (.cons_cons _ .slnil) ⟨⟨0, rfl⟩, ⟨⟨1, rfl⟩, ⟨⟨2, rfl⟩, ⟨⟨3, rfl⟩, ⟨⟨4, rfl⟩, ⟨⟨5, rfl⟩, ⟨⟨6, rfl⟩, ⟨⟨7, rfl⟩, ⟨⟨8, rfl⟩, ⟨⟨9, rfl⟩, ⟨⟨10, rfl⟩, ⟨⟨11, rfl⟩, trivial⟩⟩⟩⟩⟩⟩⟩⟩⟩⟩⟩⟩ .slnil) (fun w1 hS => does_move rfl) ?_
  intro a hA
  refine any_take (v := .agg #[.bool false, .slice p11_1 ((words 5).length) p11_c1, .slice p11_2 1 p11_c2, .bool false, .slice p11_3 0 p11_c3, .slice p11_4 1 p11_c4]) hA 3 rfl rfl rfl rfl (by kernel_rfl) (by kernel_rfl) (by kernel_rfl) (fun c a w h => hP c a _ _ w h) (hS.part (.cons_cons _ .slnil) ⟨⟨0, rfl⟩, ⟨⟨1, rfl⟩, ⟨⟨2, rfl⟩, ⟨⟨3, rfl⟩, ⟨⟨4, rfl⟩, ⟨⟨5, rfl⟩, ⟨⟨6, rfl⟩, ⟨⟨7, rfl⟩, ⟨⟨8, rfl⟩, ⟨⟨9, rfl⟩, ⟨⟨10, rfl⟩, ⟨⟨11, rfl⟩, trivial⟩⟩⟩⟩⟩⟩⟩⟩⟩⟩⟩⟩ .slnil) (fun w1 hS => does_loadS hS isS_26 rfl 0 rfl (cs := [.bool false, .slice p11_1 ((words 5).length) p11_c1, .slice p11_2 1 p11_c2, .bool false, .slice p11_3 0 p11_c3, .slice p11_4 1 p11_c4]) rfl rfl) ?_
  intro a hA
  refine any_one (by kernel_rfl) (op_call hA 4 rfl rfl rfl rfl (enters_func  rfl rfl (fun w => by kernel_rfl)) ((show Calls Try.prog 34 #[.int .i64 (5)] _ (AnsV _ (Q6.whole false 5)) from intP_any (k := 5) (by decide))) ?_)
  rintro _ w22 ⟨p19_1, p19_c1, p19_2, p19_c2, p19_3, p19_c3, p19_4, p19_c4, rfl, hn20, hb21⟩
  replace hS := hS.call hb21
  replace hS := hS.addR hn20.s1.rd
  replace hS := hS.addR hn20.s2.rd
  replace hS := hS.addR hn20.s3.rd
  replace hS := hS.addR hn20.s4.rd
  refine ⟨_, rfl, (hS.part (.cons_cons _ .slnil) ⟨⟨4, rfl⟩, ⟨⟨5, rfl⟩, ⟨⟨6, rfl⟩, ⟨⟨7, rfl⟩, ⟨⟨8, rfl⟩, ⟨⟨9, rfl⟩, ⟨⟨10, rfl⟩, ⟨⟨11, rfl⟩, ⟨⟨12, rfl⟩, ⟨⟨13, rfl⟩, ⟨⟨14, rfl⟩, ⟨⟨15, rfl⟩, trivial⟩⟩⟩⟩⟩⟩⟩⟩⟩⟩⟩⟩ .slnil), ?_⟩
  intro a hA
  refine any_one (by kernel_rfl) (op_call hA 5 rfl rfl rfl rfl (enters_func  rfl rfl (fun w => by kernel_rfl)) (sameQ_any (p := Q6.whole false 5) (q := Q6.whole false 5) (show Nm _ _ p11_1 p11_c1 p11_2 p11_c2 p11_3 p11_c3 p11_4 p11_c4 from ⟨⟨(hS.rd 7 rfl), hn12.s1.nil, hn12.s1.cap⟩, ⟨(hS.rd 6 rfl), hn12.s2.nil, hn12.s2.cap⟩, ⟨(hS.rd 5 rfl), hn12.s3.nil, hn12.s3.cap⟩, ⟨(hS.rd 4 rfl), hn12.s4.nil, hn12.s4.cap⟩⟩) (lenQ_whole five_len) (show Nm _ _ p19_1 p19_c1 p19_2 p19_c2 p19_3 p19_c3 p19_4 p19_c4 from ⟨⟨(hS.rd 3 rfl), hn20.s1.nil, hn20.s1.cap⟩, ⟨(hS.rd 2 rfl), hn20.s2.nil, hn20.s2.cap⟩, ⟨(hS.rd 1 rfl), hn20.s3.nil, hn20.s3.cap⟩, ⟨(hS.rd 0 rfl), hn20.s4.nil, hn20.s4.cap⟩⟩) (lenQ_whole five_len) (sameQ_self (soundQ_whole five_len (by decide)))) ?_)
  rintro _ w24 ⟨rfl, hb23⟩
  replace hS := hS.call hb23
  refine ⟨_, rfl, (hS.part (.cons_cons _ .slnil) ⟨⟨4, rfl⟩, ⟨⟨5, rfl⟩, ⟨⟨6, rfl⟩, ⟨⟨7, rfl⟩, ⟨⟨8, rfl⟩, ⟨⟨9, rfl⟩, ⟨⟨10, rfl⟩, ⟨⟨11, rfl⟩, ⟨⟨12, rfl⟩, ⟨⟨13, rfl⟩, ⟨⟨14, rfl⟩, ⟨⟨15, rfl⟩, trivial⟩⟩⟩⟩⟩⟩⟩⟩⟩⟩⟩⟩ .slnil), ?_⟩
  intro a hA
  refine any_take (v := .bool true) hA 6 rfl rfl rfl rfl (by kernel_rfl) (by kernel_rfl) (by kernel_rfl) (fun c a w h => hP c a _ _ w h) (hS.part (.cons_cons _ .slnil) ⟨⟨4, rfl⟩, ⟨⟨5, rfl⟩, ⟨⟨6, rfl⟩, ⟨⟨7, rfl⟩, ⟨⟨8, rfl⟩, ⟨⟨9, rfl⟩, ⟨⟨10, rfl⟩, ⟨⟨11, rfl⟩, ⟨⟨12, rfl⟩, ⟨⟨13, rfl⟩, ⟨⟨14, rfl⟩, ⟨⟨15, rfl⟩, trivial⟩⟩⟩⟩⟩⟩⟩⟩⟩⟩⟩⟩ .slnil) (fun w1 hS => does_pick rfl rfl rfl rfl) ?_
  intro a hA
  refine any_take hA 7 rfl rfl rfl rfl (by kernel_rfl) (by kernel_rfl) (by kernel_rfl) (fun c a w h => hP c a _ _ w h) (hS.part (.cons_cons _ .slnil) ⟨⟨4, rfl⟩, ⟨⟨5, rfl⟩, ⟨⟨6, rfl⟩, ⟨⟨7, rfl⟩, ⟨⟨8, rfl⟩, ⟨⟨9, rfl⟩, ⟨⟨10, rfl⟩, ⟨⟨11, rfl⟩, ⟨⟨12, rfl⟩, ⟨⟨13, rfl⟩, ⟨⟨14, rfl⟩, ⟨⟨15, rfl⟩, trivial⟩⟩⟩⟩⟩⟩⟩⟩⟩⟩⟩⟩ .slnil) (fun w1 hS => does_assign rfl) ?_
  intro a hA
  refine any_end (by kernel_rfl) ?_
  refine hK18 _ _ ?_
  refine wp_ret ?_
  refine hret _ _ ?_
  refine ends (v := .bool true) hA rfl (.cons (res_tmp rfl) .nil) rfl ?_
  exact ⟨rfl, hS.bel⟩
end Go.Proofs.Yteghiinbafbokaa
namespace Go.Proofs.Yteghiinbafbokaa
open Go.RowKit
set_option linter.unusedVariables false
set_option linter.unusedSimpArgs false

def rowL (b : Bool) (y n : Nat) : List Nat := (List.range n).map (rwd b y)
theorem rowL_len (b : Bool) (y n : Nat) : (rowL b y n).length = n := by simp [rowL]
theorem rowL_get {b : Bool} {y n i : Nat} (h : i < n) : (rowL b y n).getD i 0 = rwd b y i := by simp [rowL, h]
theorem rowL_dig (b : Bool) (y n : Nat) : Dig (rowL b y n) := by
  intro x hx
  obtain ⟨i, _, rfl⟩ := List.mem_map.1 hx
  exact rwd_lt b y i
theorem getD_set (l : List Nat) (i j d : Nat) (hi : i < l.length) : (l.set i d).getD j 0 = if i = j then d else l.getD j 0 := by
  simp only [List.getD_eq_getElem?_getD]
  by_cases h : i = j
  · subst h; rw [List.getElem?_set_self hi, if_pos rfl]; rfl
  · rw [List.getElem?_set_ne h, if_neg h]
/-- A row in work: the first i words are there, the others are 0. -/
def RowIn (b : Bool) (y n i : Nat) (l : List Nat) : Prop := l.length = n ∧ (∀ j, j < i → l.getD j 0 = rwd b y j) ∧ ∀ j, i ≤ j → l.getD j 0 = 0
theorem RowIn.start (b : Bool) (y n : Nat) : RowIn b y n 0 (List.replicate n 0) := ⟨by simp, fun j hj => by omega, fun j _ => by simp [List.getD_eq_getElem?_getD, List.getElem?_replicate]; split <;> rfl⟩
theorem RowIn.step {b : Bool} {y n i : Nat} {l l' : List Nat} (h : RowIn b y n i l) (h1 : l'.length = n) (h2 : l'.getD i 0 = rwd b y i) (h3 : ∀ j, i ≠ j → l'.getD j 0 = l.getD j 0) : RowIn b y n (i + 1) l' := by
  refine ⟨h1, fun j hj => ?_, fun j hj => ?_⟩
  · by_cases e : i = j
    · subst e; exact h2
    · rw [h3 j e]; exact h.2.1 j (by omega)
  · rw [h3 j (by omega)]; exact h.2.2 j (by omega)
theorem RowIn.done {b : Bool} {y n : Nat} {l : List Nat} (h : RowIn b y n n l) : l = rowL b y n := list_of_getD (by rw [rowL_len]; exact h.1) (fun j hj => by rw [h.1] at hj; rw [rowL_get hj]; exact h.2.1 j hj)
theorem un_xorU {P : Program} {x : Nat} (hx : x < 4294967296) : ∀ w, (Op.unary .xor (.int .u32 ((x : Nat) : Int))).run P w = .ok (.int .u32 ((x ^^^ 4294967295 : Nat) : Int)) w := fun w => by
  have h := xor_u32 4294967295 x (by decide) hx
  have s : IntKind.u32.signed = false := rfl
  have hb : (2 : Int) ^ IntKind.u32.bits - 1 = ((4294967295 : Nat) : Int) := by decide
  rw [Nat.xor_comm]
  simp [go_sem, s]
  exact h
/-- Words with all bits turned, or as they are. -/
def twos (s : Bool) (u : List Nat) : List Nat := u.map (fun d => d ^^^ (s.toNat * 4294967295))
theorem twos_len (s : Bool) (u : List Nat) : (twos s u).length = u.length := by simp [twos]
theorem twos_get {s : Bool} {u : List Nat} {i : Nat} (h : i < u.length) : (twos s u).getD i 0 = u.getD i 0 ^^^ (s.toNat * 4294967295) := by simp [twos, h]
theorem twos_false (u : List Nat) : twos false u = u := by simp [twos]
theorem twos_back {u : List Nat} {i : Nat} (h : i < u.length) : (twos true u).getD i 0 ^^^ 4294967295 = u.getD i 0 := by
  rw [twos_get h]
  simp [Nat.xor_assoc]
theorem take_snoc {u : List Nat} {i d : Nat} (h : i < u.length) (hd : d = u.getD i 0) : u.take i ++ [d] = u.take (i + 1) := by
  subst hd
  rw [List.take_add_one, List.getElem?_eq_getElem h]
  simp [h]
theorem rnorm_own {B : Nat} {w : World} {ao : Option Addr} {c : Nat} {l u : List Nat} (ho : Own B w ao c l) (e : l = u) (hl : u.length ≤ 100000) : Calls Try.prog 51 #[.slice ao l.length c] w (Row1 w (words (val u))) := by
  subst e
  exact norm_any c ho.rd (by omega) ho.caps ho.nocap
theorem val_len {u : List Nat} (hd : Dig u) : (words (val u)).length ≤ u.length := words_length_le (val_lt hd)
theorem mapr_get {f : Nat → Nat} {i n : Nat} (h : i < n) : ((List.range n).map f).getD i 0 = f i := by simp [h]
theorem mapr_len (f : Nat → Nat) (n : Nat) : ((List.range n).map f).length = n := by simp
theorem mapr_all {f : Nat → Nat} {i n : Nat} (h : i = n) : ((List.range n).map f).take i = (List.range n).map f := by
  subst h
  rw [List.take_of_length_le (by simp)]
/-- What two rows make, word by word. -/
theorem both_twos {fop : Nat → Nat → Nat} {fb : Bool → Bool → Bool} {b1 b2 : Bool} {y1 y2 n : Nat} : (List.range n).map (fun i => fop (rwd b1 y1 i) (rwd b2 y2 i)) = twos (fb b1 b2) (outL fop fb b1 y1 b2 y2 n) := by
  unfold twos outL
  rw [List.map_map]
  apply List.map_congr_left
  intro i _
  simp [outW, Nat.xor_assoc]
theorem put_val {fop : Nat → Nat → Nat} {fb : Bool → Bool → Bool} (h : BOp fop fb) {b1 b2 : Bool} {y1 y2 n : Nat} (h1 : (words y1).length ≤ n) (h2 : (words y2).length ≤ n) : val (outL fop fb b1 y1 b2 y2 n) = putY fop fb b1 y1 b2 y2 := by
  unfold putY
  have hm : max (words y1).length (words y2).length ≤ n := Nat.max_le.2 ⟨h1, h2⟩
  obtain ⟨k, rfl⟩ := Nat.exists_eq_add_of_le hm
  exact outL_val h (Nat.le_max_left _ _) (Nat.le_max_right _ _) k
end Go.Proofs.Yteghiinbafbokaa
namespace Go.Proofs.Yteghiinbafbokaa
open Go.RowKit
set_option linter.unusedVariables false
set_option linter.unusedSimpArgs false
set_option maxRecDepth 100000

/-- A row is answered: so many words. -/
def AnsRow (w : World) (l : List Nat) (e : Ending) (w' : World) : Prop := ∃ o c, e = .returned (.slice o l.length c) ∧ Own w.heap.size w' o c l ∧ Below w.heap.size w w'
theorem rrow_any {w : World} {b : Bool} {x n : Nat} {a1 a2 a3 a4 : Option Addr} {ac1 ac2 ac3 ac4 : Nat} (ha : Nm w (Q6.whole b x) a1 ac1 a2 ac2 a3 ac3 a4 ac4) (hx : (words x).length ≤ 512) (hb : b.toNat ≤ x) (hn : n ≤ 5000) : Calls Try.prog 25 #[numV (Q6.whole b x) a1 ac1 a2 ac2 a3 ac3 a4 ac4, .int .i64 ((n : Nat) : Int)] w (AnsRow w (rowL b (x - b.toNat) n)) := by
  cases b
  · have hS : St w w [] [(a4, [1]), (a3, []), (a2, [1]), (a1, words x)] [] := ((((St.start w).addR ha.s1.rd).addR ha.s2.rd).addR ha.s3.rd).addR ha.s4.rd
    refine walk_of (l := [(0, .agg #[.bool false, .slice a1 ((words x).length) ac1, .slice a2 1 ac2, .bool false, .slice a3 0 ac3, .slice a4 1 ac4]), (1, .int .i64 (((n : Nat) : Int)))]) Try.func25 rfl Try.ntmps25 rfl rfl ?_
    intro Q hret hnorm hP a hA
    refine wp_seq_k (fun K1 hK1 => ?_)
    refine wp_region_lit ?_
    refine seq_new (vs := [.bool false, .slice a1 ((words x).length) ac1, .slice a2 1 ac2, .bool false, .slice a3 0 ac3, .slice a4 1 ac4]) (t := 26) hA hS rfl rfl rfl (fun g => .pointer (some ⟨g, 0, none⟩)) (does_box rfl rfl) rfl ?_
    intro g2 w3 hS a hA
    refine seq_do hA rfl rfl rfl (does_assign rfl) ?_
    intro a hA
    refine seq_end ?_
    refine hK1 _ _ ?_
    refine wp_seq_k (fun K4 hK4 => ?_)
    refine wp_region_lit ?_
    refine seq_do hA rfl rfl rfl (does_move rfl) ?_
    intro a hA
    refine seq_make (m := n) hA hS rfl rfl rfl (does_make Try.underlying22 (by kernel_rfl) rfl rfl (by omega)) (by omega) ?_
    intro g5 w6 hS a hA
    refine seq_do hA rfl rfl rfl (does_assign rfl) ?_
    intro a hA
    refine seq_end ?_
    refine hK4 _ _ ?_
    refine wp_seq_k (fun K7 hK7 => ?_)
    refine wp_region_lit ?_
    refine seq_do (v := .agg #[.bool false, .slice a1 ((words x).length) ac1, .slice a2 1 ac2, .bool false, .slice a3 0 ac3, .slice a4 1 ac4]) hA rfl rfl rfl (does_loadS hS isS_26 rfl 0 rfl (cs := [.bool false, .slice a1 ((words x).length) ac1, .slice a2 1 ac2, .bool false, .slice a3 0 ac3, .slice a4 1 ac4]) rfl rfl) ?_
    intro a hA
    refine seq_new (vs := [.bool false, .slice none 0 0, .slice none 0 0, .bool false, .slice none 0 0, .slice none 0 0]) (t := 26) hA hS rfl rfl rfl (fun g => .pointer (some ⟨g, 0, none⟩)) (does_alloc (z := .agg #[.bool false, .slice none 0 0, .slice none 0 0, .bool false, .slice none 0 0, .slice none 0 0]) (by kernel_rfl) rfl) rfl ?_
    intro g8 w9 hS a hA
    refine seq_store (us := [.bool false, .slice a1 ((words x).length) ac1, .slice a2 1 ac2, .bool false, .slice a3 0 ac3, .slice a4 1 ac4]) hA hS rfl rfl (sets_store (cs := [.bool false, .slice a1 ((words x).length) ac1, .slice a2 1 ac2, .bool false, .slice a3 0 ac3, .slice a4 1 ac4]) rfl rfl rfl (by kernel_rfl) hS 0 rfl rfl rfl) 0 rfl rfl rfl rfl ?_
    intro w10 hS
    refine seq_end ?_
    refine hK7 _ _ ?_
    refine wp_seq_k (fun K11 hK11 => ?_)
    refine wp_seq_k (fun K12 hK12 => ?_)
    refine wp_region_lit ?_
    refine seq_do (v := .pointer (some ⟨g2, 0, none⟩)) hA rfl rfl rfl (does_field fld_26_0 rfl rfl) ?_
    intro a hA
    refine seq_do (v := .pointer (some ⟨g2, 0, none⟩)) hA rfl rfl rfl (does_field fld_24_0 rfl rfl) ?_
    intro a hA
    refine seq_do hA rfl rfl rfl (does_load1 hS is1_4 rfl 1 rfl rfl) ?_
    intro a hA
    refine seq_end ?_
    refine hK12 _ _ ?_
    refine wp_cond_false (hA.ev rfl) ?_
    refine wp_skip ?_
    refine hK11 _ _ ?_
    refine wp_seq_k (fun K13 hK13 => ?_)
    refine wp_seq_k (fun K14 hK14 => ?_)
    refine wp_region_lit ?_
    refine seq_do hA rfl rfl rfl (does_assign rfl) ?_
    intro a hA
    refine seq_end ?_
    refine hK14 _ _ ?_
    refine wp_block ?_
    refine wp_loop_n (fun m a w1 => ∃ (i : Nat) (l : List Nat), m = n - i ∧ (i ≤ n ∧ RowIn false (x) n i l) ∧ Sl a 48 [(0, .agg #[.bool false, .slice a1 ((words x).length) ac1, .slice a2 1 ac2, .bool false, .slice a3 0 ac3, .slice a4 1 ac4]), (1, .int .i64 (((n : Nat) : Int))), (2, .pointer (some ⟨g2, 0, none⟩)), (4, .slice none 0 0), (5, .slice (some ⟨g5, 0, none⟩) n n), (6, .pointer (some ⟨g8, 0, none⟩)), (7, .int .i64 (((i : Nat) : Int))), (8, .int .i64 (((n : Nat) : Int))), (9, .slice (some ⟨g5, 0, none⟩) n n), (10, .agg #[.bool false, .slice a1 ((words x).length) ac1, .slice a2 1 ac2, .bool false, .slice a3 0 ac3, .slice a4 1 ac4]), (11, .pointer (some ⟨g2, 0, none⟩)), (12, .pointer (some ⟨g2, 0, none⟩)), (13, .bool false)] ∧ St w w1 [(g8, [.bool false, .slice a1 ((words x).length) ac1, .slice a2 1 ac2, .bool false, .slice a3 0 ac3, .slice a4 1 ac4]), (g2, [.bool false, .slice a1 ((words x).length) ac1, .slice a2 1 ac2, .bool false, .slice a3 0 ac3, .slice a4 1 ac4])] [(a4, [1]), (a3, []), (a2, [1]), (a1, words x)] [(some ⟨g5, 0, none⟩, n, l)]) _ ⟨0, List.replicate n 0, rfl, ⟨Nat.zero_le _, RowIn.start _ _ _⟩, hA.keep _ ⟨rfl, rfl, rfl, rfl, rfl, rfl, rfl, rfl, rfl, rfl, rfl, rfl, rfl, trivial⟩, hS⟩ ?_
    clear hS hA
    rintro m a w15 ⟨i, l, rfl, hinv17, hA, hS⟩ K16 hK16
    obtain ⟨hle9, hrow9⟩ := hinv17
    have hll9 := hrow9.1
    have hdig9 := (hS.row 0 rfl).dig
    refine wp_seq_k (fun K18 hK18 => ?_)
    refine wp_seq_k (fun K19 hK19 => ?_)
    refine wp_region_lit ?_
    refine seq_do hA rfl rfl rfl (does_move rfl) ?_
    intro a hA
    refine seq_do hA rfl rfl rfl (does_move rfl) ?_
    intro a hA
    rcases Bool.eq_false_or_eq_true (decide (((i : Nat) : Int) < ((n : Nat) : Int))) with hb20 | hb20
    · have hb20' := of_decide_eq_true hb20
      refine seq_do (v := .bool true) hA rfl rfl rfl (does_bin rfl rfl (fun w => (bin_lss w).trans (by rw [hb20]))) ?_
      intro a hA
      refine seq_end ?_
      refine hK19 _ _ ?_
      refine wp_cond_true (hA.ev rfl) ?_
      refine wp_skip ?_
      refine hK18 _ _ ?_
      refine wp_seq_k (fun K21 hK21 => ?_)
      refine wp_block ?_
      refine wp_seq_k (fun K22 hK22 => ?_)
      refine wp_seq_k (fun K23 hK23 => ?_)
      refine wp_region_lit ?_
      refine seq_do hA rfl rfl rfl (does_move rfl) ?_
      intro a hA
      refine seq_do (v := .pointer (some ⟨g8, 0, none⟩)) hA rfl rfl rfl (does_field fld_26_0 rfl rfl) ?_
      intro a hA
      refine seq_do (v := .pointer (some ⟨g8, 1, none⟩)) hA rfl rfl rfl (does_field fld_24_1 rfl rfl) ?_
      intro a hA
      refine seq_do hA rfl rfl rfl (does_load1 hS is1_22 rfl 0 rfl rfl) ?_
      intro a hA
      refine seq_do (v := .int .i64 ((((words x).length : Nat) : Int))) hA rfl rfl rfl (does_len Try.underlying22 rfl) ?_
      intro a hA
      rcases Bool.eq_false_or_eq_true (decide (((i : Nat) : Int) < (((words x).length : Nat) : Int))) with hb24 | hb24
      · have hb24' := of_decide_eq_true hb24
        refine seq_do (v := .bool true) hA rfl rfl rfl (does_bin rfl rfl (fun w => (bin_lss w).trans (by rw [hb24]))) ?_
        intro a hA
        refine seq_end ?_
        refine hK23 _ _ ?_
        refine wp_cond_true (hA.ev rfl) ?_
        refine wp_region_lit ?_
        refine seq_do hA rfl rfl rfl (does_move rfl) ?_
        intro a hA
        refine seq_do hA rfl rfl rfl (does_move rfl) ?_
        intro a hA
        refine seq_do (v := .pointer (some ⟨g8, 0, none⟩)) hA rfl rfl rfl (does_field fld_26_0 rfl rfl) ?_
        intro a hA
        refine seq_do (v := .pointer (some ⟨g8, 1, none⟩)) hA rfl rfl rfl (does_field fld_24_1 rfl rfl) ?_
        intro a hA
        refine seq_do hA rfl rfl rfl (does_load1 hS is1_22 rfl 0 rfl rfl) ?_
        intro a hA
        refine seq_do hA rfl rfl rfl (does_move rfl) ?_
        intro a hA
        have hi28 : i < (words x).length := by first | omega | (simp only [List.length_set]; omega)
        obtain ⟨b25, f26, hso27⟩ := Rd.addr (hS.rd 3 rfl) hi28
        refine seq_do (v := .pointer (some ⟨b25, f26 + i, none⟩)) hA rfl rfl rfl (does_indexRow (k := i) Try.underlying22 (by kernel_rfl) rfl rfl (by omega) hso27 hi28) ?_
        intro a hA
        refine seq_do (v := .int .u32 ((((words x).getD i 0 : Nat) : Int))) hA rfl rfl rfl (does_loadRow (hS.rd 3 rfl) hso27 hi28 is1_41 rfl) ?_
        intro a hA
        have hi32 : i < l.length := by first | omega | (simp only [List.length_set]; omega)
        refine seq_do (v := .pointer (some ⟨g5, 0 + i, none⟩)) hA rfl rfl rfl (does_indexRow (k := i) Try.underlying22 (by kernel_rfl) rfl rfl (by omega) rfl (by omega)) ?_
        intro a hA
        refine seq_row (us' := l.set i ((words x).getD i 0)) hA hS rfl rfl (sets_row (d := (words x).getD i 0) (by kernel_rfl) rfl rfl hS 0 rfl hi32) 0 rfl (Dig.getD (words_dig _) _) rfl ?_
        intro w33 hS
        refine seq_end ?_
        refine hK22 _ _ ?_
        refine wp_seq_k (fun K34 hK34 => ?_)
        refine wp_region_lit ?_
        refine seq_do (v := .pointer (some ⟨g2, 0, none⟩)) hA rfl rfl rfl (does_field fld_26_0 rfl rfl) ?_
        intro a hA
        refine seq_do (v := .pointer (some ⟨g2, 0, none⟩)) hA rfl rfl rfl (does_field fld_24_0 rfl rfl) ?_
        intro a hA
        refine seq_do hA rfl rfl rfl (does_load1 hS is1_4 rfl 1 rfl rfl) ?_
        intro a hA
        refine seq_end ?_
        refine hK34 _ _ ?_
        refine wp_cond_false (hA.ev rfl) ?_
        refine wp_skip ?_
        refine hK21 _ _ ?_
        refine wp_region_lit ?_
        refine seq_do hA rfl rfl rfl (does_move rfl) ?_
        intro a hA
        refine seq_do (v := .int .i64 (((i + 1 : Nat) : Int))) hA rfl rfl rfl (does_bin rfl rfl (fun w => (bin_add (i64In (by omega) (by omega)) w).trans (by rw [show (((i : Nat) : Int) + 1 : Int) = ((i + 1 : Nat) : Int) from by omega]))) ?_
        intro a hA
        refine seq_do hA rfl rfl rfl (does_assign rfl) ?_
        intro a hA
        refine seq_end ?_
        refine hK16 _ _ _ (by omega) ⟨i + 1, l.set i ((words x).getD i 0), rfl, ⟨by omega, hrow9.step (by simp only [List.length_set]; exact hrow9.1) (by rw [getD_set _ _ _ _ (by omega), if_pos rfl, words_getD]; simp [rwd]) (fun j hj => by rw [getD_set _ _ _ _ (by omega), if_neg hj])⟩, hA.keep _ ⟨rfl, rfl, rfl, rfl, rfl, rfl, rfl, rfl, rfl, rfl, rfl, rfl, rfl, trivial⟩, ((hS.pickR [(a4, [1]), (a3, []), (a2, [1]), (a1, words x)] ⟨⟨0, rfl⟩, ⟨⟨1, rfl⟩, ⟨⟨2, rfl⟩, ⟨⟨3, rfl⟩, trivial⟩⟩⟩⟩).subL _ (.cons_cons _ (.cons_cons _ .slnil)))⟩
      · have hb24' := of_decide_eq_false hb24
        refine seq_do (v := .bool false) hA rfl rfl rfl (does_bin rfl rfl (fun w => (bin_lss w).trans (by rw [hb24]))) ?_
        intro a hA
        refine seq_end ?_
        refine hK23 _ _ ?_
        refine wp_cond_false (hA.ev rfl) ?_
        refine wp_skip ?_
        refine hK22 _ _ ?_
        refine wp_seq_k (fun K35 hK35 => ?_)
        refine wp_region_lit ?_
        refine seq_do (v := .pointer (some ⟨g2, 0, none⟩)) hA rfl rfl rfl (does_field fld_26_0 rfl rfl) ?_
        intro a hA
        refine seq_do (v := .pointer (some ⟨g2, 0, none⟩)) hA rfl rfl rfl (does_field fld_24_0 rfl rfl) ?_
        intro a hA
        refine seq_do hA rfl rfl rfl (does_load1 hS is1_4 rfl 1 rfl rfl) ?_
        intro a hA
        refine seq_end ?_
        refine hK35 _ _ ?_
        refine wp_cond_false (hA.ev rfl) ?_
        refine wp_skip ?_
        refine hK21 _ _ ?_
        refine wp_region_lit ?_
        refine seq_do hA rfl rfl rfl (does_move rfl) ?_
        intro a hA
        refine seq_do (v := .int .i64 (((i + 1 : Nat) : Int))) hA rfl rfl rfl (does_bin rfl rfl (fun w => (bin_add (i64In (by omega) (by omega)) w).trans (by rw [show (((i : Nat) : Int) + 1 : Int) = ((i + 1 : Nat) : Int) from by omega]))) ?_
        intro a hA
        refine seq_do hA rfl rfl rfl (does_assign rfl) ?_
        intro a hA
        refine seq_end ?_
        refine hK16 _ _ _ (by omega) ⟨i + 1, l, rfl, ⟨by omega, hrow9.step hrow9.1 (by rw [hrow9.2.2 i (Nat.le_refl _), rwd_end (by omega)]; rfl) (fun j hj => rfl)⟩, hA.keep _ ⟨rfl, rfl, rfl, rfl, rfl, rfl, rfl, rfl, rfl, rfl, rfl, rfl, rfl, trivial⟩, ((hS.pickR [(a4, [1]), (a3, []), (a2, [1]), (a1, words x)] ⟨⟨0, rfl⟩, ⟨⟨1, rfl⟩, ⟨⟨2, rfl⟩, ⟨⟨3, rfl⟩, trivial⟩⟩⟩⟩).subL _ (.cons_cons _ (.cons_cons _ .slnil)))⟩
    · have hb20' := of_decide_eq_false hb20
      refine seq_do (v := .bool false) hA rfl rfl rfl (does_bin rfl rfl (fun w => (bin_lss w).trans (by rw [hb20]))) ?_
      intro a hA
      refine seq_end ?_
      refine hK19 _ _ ?_
      refine wp_cond_false (hA.ev rfl) ?_
      refine wp_exit ?_
      refine hK13 _ _ ?_
      refine wp_seq_k (fun K36 hK36 => ?_)
      refine wp_region_lit ?_
      refine seq_do hA rfl rfl rfl (does_move rfl) ?_
      intro a hA
      refine seq_do hA rfl rfl rfl (does_assign rfl) ?_
      intro a hA
      refine seq_end ?_
      refine hK36 _ _ ?_
      refine wp_ret ?_
      refine hret _ _ ?_
      refine ends (v := .slice (some ⟨g5, 0, none⟩) n n) hA rfl (.cons (res_tmp rfl) .nil) rfl ?_
      have hi9 : i = n := by omega
      subst hi9
      have el := hrow9.done
      subst el
      rw [show (AnsRow w (rowL false (x - false.toNat) i)) = AnsRow w (rowL false (x) i) from rfl]
      exact ⟨_, _, by rw [rowL_len], hS.row 0 rfl, hS.bel⟩
  · have hS : St w w [] [(a4, [1]), (a3, []), (a2, [1]), (a1, words x)] [] := ((((St.start w).addR ha.s1.rd).addR ha.s2.rd).addR ha.s3.rd).addR ha.s4.rd
    refine walk_of (l := [(0, .agg #[.bool true, .slice a1 ((words x).length) ac1, .slice a2 1 ac2, .bool false, .slice a3 0 ac3, .slice a4 1 ac4]), (1, .int .i64 (((n : Nat) : Int)))]) Try.func25 rfl Try.ntmps25 rfl rfl ?_
    intro Q hret hnorm hP a hA
    refine wp_seq_k (fun K1 hK1 => ?_)
    refine wp_region_lit ?_
    refine seq_new (vs := [.bool true, .slice a1 ((words x).length) ac1, .slice a2 1 ac2, .bool false, .slice a3 0 ac3, .slice a4 1 ac4]) (t := 26) hA hS rfl rfl rfl (fun g => .pointer (some ⟨g, 0, none⟩)) (does_box rfl rfl) rfl ?_
    intro g2 w3 hS a hA
    refine seq_do hA rfl rfl rfl (does_assign rfl) ?_
    intro a hA
    refine seq_end ?_
    refine hK1 _ _ ?_
    refine wp_seq_k (fun K4 hK4 => ?_)
    refine wp_region_lit ?_
    refine seq_do hA rfl rfl rfl (does_move rfl) ?_
    intro a hA
    refine seq_make (m := n) hA hS rfl rfl rfl (does_make Try.underlying22 (by kernel_rfl) rfl rfl (by omega)) (by omega) ?_
    intro g5 w6 hS a hA
    refine seq_do hA rfl rfl rfl (does_assign rfl) ?_
    intro a hA
    refine seq_end ?_
    refine hK4 _ _ ?_
    refine wp_seq_k (fun K7 hK7 => ?_)
    refine wp_region_lit ?_
    refine seq_do (v := .agg #[.bool true, .slice a1 ((words x).length) ac1, .slice a2 1 ac2, .bool false, .slice a3 0 ac3, .slice a4 1 ac4]) hA rfl rfl rfl (does_loadS hS isS_26 rfl 0 rfl (cs := [.bool true, .slice a1 ((words x).length) ac1, .slice a2 1 ac2, .bool false, .slice a3 0 ac3, .slice a4 1 ac4]) rfl rfl) ?_
    intro a hA
    refine seq_new (vs := [.bool false, .slice none 0 0, .slice none 0 0, .bool false, .slice none 0 0, .slice none 0 0]) (t := 26) hA hS rfl rfl rfl (fun g => .pointer (some ⟨g, 0, none⟩)) (does_alloc (z := .agg #[.bool false, .slice none 0 0, .slice none 0 0, .bool false, .slice none 0 0, .slice none 0 0]) (by kernel_rfl) rfl) rfl ?_
    intro g8 w9 hS a hA
    refine seq_store (us := [.bool true, .slice a1 ((words x).length) ac1, .slice a2 1 ac2, .bool false, .slice a3 0 ac3, .slice a4 1 ac4]) hA hS rfl rfl (sets_store (cs := [.bool true, .slice a1 ((words x).length) ac1, .slice a2 1 ac2, .bool false, .slice a3 0 ac3, .slice a4 1 ac4]) rfl rfl rfl (by kernel_rfl) hS 0 rfl rfl rfl) 0 rfl rfl rfl rfl ?_
    intro w10 hS
    refine seq_end ?_
    refine hK7 _ _ ?_
    refine wp_seq_k (fun K11 hK11 => ?_)
    refine wp_seq_k (fun K12 hK12 => ?_)
    refine wp_region_lit ?_
    refine seq_do (v := .pointer (some ⟨g2, 0, none⟩)) hA rfl rfl rfl (does_field fld_26_0 rfl rfl) ?_
    intro a hA
    refine seq_do (v := .pointer (some ⟨g2, 0, none⟩)) hA rfl rfl rfl (does_field fld_24_0 rfl rfl) ?_
    intro a hA
    refine seq_do hA rfl rfl rfl (does_load1 hS is1_4 rfl 1 rfl rfl) ?_
    intro a hA
    refine seq_end ?_
    refine hK12 _ _ ?_
    refine wp_cond_true (hA.ev rfl) ?_
    refine wp_region_lit ?_
    refine seq_do (v := .agg #[.bool true, .slice a1 ((words x).length) ac1, .slice a2 1 ac2, .bool false, .slice a3 0 ac3, .slice a4 1 ac4]) hA rfl rfl rfl (does_loadS hS isS_26 rfl 1 rfl (cs := [.bool true, .slice a1 ((words x).length) ac1, .slice a2 1 ac2, .bool false, .slice a3 0 ac3, .slice a4 1 ac4]) rfl rfl) ?_
    intro a hA
    refine seq_call hA rfl rfl rfl (enters_func  rfl rfl (fun w => by kernel_rfl)) (rturn_any (b := true) (x := x) (show Nm _ _ a1 ac1 a2 ac2 a3 ac3 a4 ac4 from ⟨⟨(hS.rd 3 rfl), ha.s1.nil, ha.s1.cap⟩, ⟨(hS.rd 2 rfl), ha.s2.nil, ha.s2.cap⟩, ⟨(hS.rd 1 rfl), ha.s3.nil, ha.s3.cap⟩, ⟨(hS.rd 0 rfl), ha.s4.nil, ha.s4.cap⟩⟩) (by omega) hb) ?_
    rintro _ w16 ⟨p13_1, p13_c1, p13_2, p13_c2, p13_3, p13_c3, p13_4, p13_c4, rfl, hn14, hb15⟩
    have hS0 := hS
    replace hS := hS.call hb15
    replace hS := hS.addRZ hn14.s1.rd (fun h => (words_top _).resolve_left h)
    replace hS := hS.addRZ hn14.s2.rd (fun _ => show ([1] : List Nat).getD 0 0 ≠ 0 from by decide)
    replace hS := hS.addRZ hn14.s3.rd (fun h => absurd rfl h)
    replace hS := hS.addRZ hn14.s4.rd (fun _ => show ([1] : List Nat).getD 0 0 ≠ 0 from by decide)
    refine ⟨_, rfl, ?_⟩
    intro a hA
    refine seq_store (us := [.bool false, .slice p13_1 ((words (turnN true x)).length) p13_c1, .slice p13_2 1 p13_c2, .bool false, .slice p13_3 0 p13_c3, .slice p13_4 1 p13_c4]) hA hS rfl rfl (sets_store (cs := [.bool false, .slice p13_1 ((words (turnN true x)).length) p13_c1, .slice p13_2 1 p13_c2, .bool false, .slice p13_3 0 p13_c3, .slice p13_4 1 p13_c4]) rfl rfl rfl (by kernel_rfl) hS 0 rfl rfl rfl) 0 rfl rfl rfl rfl ?_
    intro w17 hS
    refine seq_end ?_
    refine hK11 _ _ ?_
    refine wp_seq_k (fun K18 hK18 => ?_)
    refine wp_seq_k (fun K19 hK19 => ?_)
    refine wp_region_lit ?_
    refine seq_do hA rfl rfl rfl (does_assign rfl) ?_
    intro a hA
    refine seq_end ?_
    refine hK19 _ _ ?_
    refine wp_block ?_
    refine wp_loop_n (fun m a w1 => ∃ (i : Nat) (l : List Nat), m = n - i ∧ (i ≤ n ∧ RowIn true (turnN true x) n i l) ∧ Sl a 48 [(0, .agg #[.bool true, .slice a1 ((words x).length) ac1, .slice a2 1 ac2, .bool false, .slice a3 0 ac3, .slice a4 1 ac4]), (1, .int .i64 (((n : Nat) : Int))), (2, .pointer (some ⟨g2, 0, none⟩)), (4, .slice none 0 0), (5, .slice (some ⟨g5, 0, none⟩) n n), (6, .pointer (some ⟨g8, 0, none⟩)), (7, .int .i64 (((i : Nat) : Int))), (8, .int .i64 (((n : Nat) : Int))), (9, .slice (some ⟨g5, 0, none⟩) n n), (10, .agg #[.bool true, .slice a1 ((words x).length) ac1, .slice a2 1 ac2, .bool false, .slice a3 0 ac3, .slice a4 1 ac4]), (11, .pointer (some ⟨g2, 0, none⟩)), (12, .pointer (some ⟨g2, 0, none⟩)), (13, .bool true), (14, .agg #[.bool true, .slice a1 ((words x).length) ac1, .slice a2 1 ac2, .bool false, .slice a3 0 ac3, .slice a4 1 ac4]), (15, .agg #[.bool false, .slice p13_1 ((words (turnN true x)).length) p13_c1, .slice p13_2 1 p13_c2, .bool false, .slice p13_3 0 p13_c3, .slice p13_4 1 p13_c4])] ∧ St w w1 [(g8, [.bool false, .slice p13_1 ((words (turnN true x)).length) p13_c1, .slice p13_2 1 p13_c2, .bool false, .slice p13_3 0 p13_c3, .slice p13_4 1 p13_c4]), (g2, [.bool true, .slice a1 ((words x).length) ac1, .slice a2 1 ac2, .bool false, .slice a3 0 ac3, .slice a4 1 ac4])] [(p13_4, [1]), (p13_3, []), (p13_2, [1]), (p13_1, words (turnN true x)), (a4, [1]), (a3, []), (a2, [1]), (a1, words x)] [(some ⟨g5, 0, none⟩, n, l)]) _ ⟨0, List.replicate n 0, rfl, ⟨Nat.zero_le _, RowIn.start _ _ _⟩, hA.keep _ ⟨rfl, rfl, rfl, rfl, rfl, rfl, rfl, rfl, rfl, rfl, rfl, rfl, rfl, rfl, rfl, trivial⟩, hS⟩ ?_
    clear hS hA
    rintro m a w20 ⟨i, l, rfl, hinv22, hA, hS⟩ K21 hK21
    obtain ⟨hle9, hrow9⟩ := hinv22
    have hll9 := hrow9.1
    have hdig9 := (hS.row 0 rfl).dig
    refine wp_seq_k (fun K23 hK23 => ?_)
    refine wp_seq_k (fun K24 hK24 => ?_)
    refine wp_region_lit ?_
    refine seq_do hA rfl rfl rfl (does_move rfl) ?_
    intro a hA
    refine seq_do hA rfl rfl rfl (does_move rfl) ?_
    intro a hA
    rcases Bool.eq_false_or_eq_true (decide (((i : Nat) : Int) < ((n : Nat) : Int))) with hb25 | hb25
    · have hb25' := of_decide_eq_true hb25
      refine seq_do (v := .bool true) hA rfl rfl rfl (does_bin rfl rfl (fun w => (bin_lss w).trans (by rw [hb25]))) ?_
      intro a hA
      refine seq_end ?_
      refine hK24 _ _ ?_
      refine wp_cond_true (hA.ev rfl) ?_
      refine wp_skip ?_
      refine hK23 _ _ ?_
      refine wp_seq_k (fun K26 hK26 => ?_)
      refine wp_block ?_
      refine wp_seq_k (fun K27 hK27 => ?_)
      refine wp_seq_k (fun K28 hK28 => ?_)
      refine wp_region_lit ?_
      refine seq_do hA rfl rfl rfl (does_move rfl) ?_
      intro a hA
      refine seq_do (v := .pointer (some ⟨g8, 0, none⟩)) hA rfl rfl rfl (does_field fld_26_0 rfl rfl) ?_
      intro a hA
      refine seq_do (v := .pointer (some ⟨g8, 1, none⟩)) hA rfl rfl rfl (does_field fld_24_1 rfl rfl) ?_
      intro a hA
      refine seq_do hA rfl rfl rfl (does_load1 hS is1_22 rfl 0 rfl rfl) ?_
      intro a hA
      refine seq_do (v := .int .i64 ((((words (turnN true x)).length : Nat) : Int))) hA rfl rfl rfl (does_len Try.underlying22 rfl) ?_
      intro a hA
      rcases Bool.eq_false_or_eq_true (decide (((i : Nat) : Int) < (((words (turnN true x)).length : Nat) : Int))) with hb29 | hb29
      · have hb29' := of_decide_eq_true hb29
        refine seq_do (v := .bool true) hA rfl rfl rfl (does_bin rfl rfl (fun w => (bin_lss w).trans (by rw [hb29]))) ?_
        intro a hA
        refine seq_end ?_
        refine hK28 _ _ ?_
        refine wp_cond_true (hA.ev rfl) ?_
        refine wp_region_lit ?_
        refine seq_do hA rfl rfl rfl (does_move rfl) ?_
        intro a hA
        refine seq_do hA rfl rfl rfl (does_move rfl) ?_
        intro a hA
        refine seq_do (v := .pointer (some ⟨g8, 0, none⟩)) hA rfl rfl rfl (does_field fld_26_0 rfl rfl) ?_
        intro a hA
        refine seq_do (v := .pointer (some ⟨g8, 1, none⟩)) hA rfl rfl rfl (does_field fld_24_1 rfl rfl) ?_
        intro a hA
        refine seq_do hA rfl rfl rfl (does_load1 hS is1_22 rfl 0 rfl rfl) ?_
        intro a hA
        refine seq_do hA rfl rfl rfl (does_move rfl) ?_
        intro a hA
        have hi33 : i < (words (turnN true x)).length := by first | omega | (simp only [List.length_set]; omega)
        obtain ⟨b30, f31, hso32⟩ := Rd.addr (hS.rd 3 rfl) hi33
        refine seq_do (v := .pointer (some ⟨b30, f31 + i, none⟩)) hA rfl rfl rfl (does_indexRow (k := i) Try.underlying22 (by kernel_rfl) rfl rfl (by omega) hso32 hi33) ?_
        intro a hA
        refine seq_do (v := .int .u32 ((((words (turnN true x)).getD i 0 : Nat) : Int))) hA rfl rfl rfl (does_loadRow (hS.rd 3 rfl) hso32 hi33 is1_41 rfl) ?_
        intro a hA
        have hi37 : i < l.length := by first | omega | (simp only [List.length_set]; omega)
        refine seq_do (v := .pointer (some ⟨g5, 0 + i, none⟩)) hA rfl rfl rfl (does_indexRow (k := i) Try.underlying22 (by kernel_rfl) rfl rfl (by omega) rfl (by omega)) ?_
        intro a hA
        refine seq_row (us' := l.set i ((words (turnN true x)).getD i 0)) hA hS rfl rfl (sets_row (d := (words (turnN true x)).getD i 0) (by kernel_rfl) rfl rfl hS 0 rfl hi37) 0 rfl (Dig.getD (words_dig _) _) rfl ?_
        intro w38 hS
        refine seq_end ?_
        refine hK27 _ _ ?_
        refine wp_seq_k (fun K39 hK39 => ?_)
        refine wp_region_lit ?_
        refine seq_do (v := .pointer (some ⟨g2, 0, none⟩)) hA rfl rfl rfl (does_field fld_26_0 rfl rfl) ?_
        intro a hA
        refine seq_do (v := .pointer (some ⟨g2, 0, none⟩)) hA rfl rfl rfl (does_field fld_24_0 rfl rfl) ?_
        intro a hA
        refine seq_do hA rfl rfl rfl (does_load1 hS is1_4 rfl 1 rfl rfl) ?_
        intro a hA
        refine seq_end ?_
        refine hK39 _ _ ?_
        refine wp_cond_true (hA.ev rfl) ?_
        refine wp_region_lit ?_
        refine seq_do hA rfl rfl rfl (does_move rfl) ?_
        intro a hA
        refine seq_do hA rfl rfl rfl (does_move rfl) ?_
        intro a hA
        refine seq_do hA rfl rfl rfl (does_move rfl) ?_
        intro a hA
        refine seq_do hA rfl rfl rfl (does_move rfl) ?_
        intro a hA
        have hi43 : i < (l.set i ((words (turnN true x)).getD i 0)).length := by first | omega | (simp only [List.length_set]; omega)
        refine seq_do (v := .pointer (some ⟨g5, 0 + i, none⟩)) hA rfl rfl rfl (does_indexRow (k := i) Try.underlying22 (by kernel_rfl) rfl rfl (by omega) rfl (by omega)) ?_
        intro a hA
        refine seq_do (v := .int .u32 ((((l.set i ((words (turnN true x)).getD i 0)).getD i 0 : Nat) : Int))) hA rfl rfl rfl (does_loadRow (hS.row 0 rfl).rd rfl hi43 is1_41 rfl) ?_
        intro a hA
        refine seq_do (v := .int .u32 ((((l.set i ((words (turnN true x)).getD i 0)).getD i 0 ^^^ 4294967295 : Nat) : Int))) hA rfl rfl rfl (does_un rfl (un_xorU (Dig.getD ((hS.row 0 rfl).rd.dig) _))) ?_
        intro a hA
        have hi47 : i < (l.set i ((words (turnN true x)).getD i 0)).length := by first | omega | (simp only [List.length_set]; omega)
        refine seq_do (v := .pointer (some ⟨g5, 0 + i, none⟩)) hA rfl rfl rfl (does_indexRow (k := i) Try.underlying22 (by kernel_rfl) rfl rfl (by omega) rfl (by omega)) ?_
        intro a hA
        refine seq_row (us' := (l.set i ((words (turnN true x)).getD i 0)).set i ((l.set i ((words (turnN true x)).getD i 0)).getD i 0 ^^^ 4294967295)) hA hS rfl rfl (sets_row (d := (l.set i ((words (turnN true x)).getD i 0)).getD i 0 ^^^ 4294967295) (by kernel_rfl) rfl rfl hS 0 rfl hi47) 0 rfl (Nat.xor_lt_two_pow (n := 32) (Dig.getD (hS.row 0 rfl).rd.dig _) (by decide)) rfl ?_
        intro w48 hS
        refine seq_end ?_
        refine hK26 _ _ ?_
        refine wp_region_lit ?_
        refine seq_do hA rfl rfl rfl (does_move rfl) ?_
        intro a hA
        refine seq_do (v := .int .i64 (((i + 1 : Nat) : Int))) hA rfl rfl rfl (does_bin rfl rfl (fun w => (bin_add (i64In (by omega) (by omega)) w).trans (by rw [show (((i : Nat) : Int) + 1 : Int) = ((i + 1 : Nat) : Int) from by omega]))) ?_
        intro a hA
        refine seq_do hA rfl rfl rfl (does_assign rfl) ?_
        intro a hA
        refine seq_end ?_
        refine hK21 _ _ _ (by omega) ⟨i + 1, (l.set i ((words (turnN true x)).getD i 0)).set i ((l.set i ((words (turnN true x)).getD i 0)).getD i 0 ^^^ 4294967295), rfl, ⟨by omega, hrow9.step (by simp only [List.length_set]; exact hrow9.1) (by rw [getD_set _ _ _ _ (by rw [List.length_set]; omega), if_pos rfl, getD_set _ _ _ _ (by omega), if_pos rfl, words_getD]; rfl) (fun j hj => by rw [getD_set _ _ _ _ (by rw [List.length_set]; omega), if_neg hj, getD_set _ _ _ _ (by omega), if_neg hj])⟩, hA.keep _ ⟨rfl, rfl, rfl, rfl, rfl, rfl, rfl, rfl, rfl, rfl, rfl, rfl, rfl, rfl, rfl, trivial⟩, ((hS.pickR [(p13_4, [1]), (p13_3, []), (p13_2, [1]), (p13_1, words (turnN true x)), (a4, [1]), (a3, []), (a2, [1]), (a1, words x)] ⟨⟨0, rfl⟩, ⟨⟨1, rfl⟩, ⟨⟨2, rfl⟩, ⟨⟨3, rfl⟩, ⟨⟨4, rfl⟩, ⟨⟨5, rfl⟩, ⟨⟨6, rfl⟩, ⟨⟨7, rfl⟩, trivial⟩⟩⟩⟩⟩⟩⟩⟩).subL _ (.cons_cons _ (.cons_cons _ .slnil)))⟩
      · have hb29' := of_decide_eq_false hb29
        refine seq_do (v := .bool false) hA rfl rfl rfl (does_bin rfl rfl (fun w => (bin_lss w).trans (by rw [hb29]))) ?_
        intro a hA
        refine seq_end ?_
        refine hK28 _ _ ?_
        refine wp_cond_false (hA.ev rfl) ?_
        refine wp_skip ?_
        refine hK27 _ _ ?_
        refine wp_seq_k (fun K49 hK49 => ?_)
        refine wp_region_lit ?_
        refine seq_do (v := .pointer (some ⟨g2, 0, none⟩)) hA rfl rfl rfl (does_field fld_26_0 rfl rfl) ?_
        intro a hA
        refine seq_do (v := .pointer (some ⟨g2, 0, none⟩)) hA rfl rfl rfl (does_field fld_24_0 rfl rfl) ?_
        intro a hA
        refine seq_do hA rfl rfl rfl (does_load1 hS is1_4 rfl 1 rfl rfl) ?_
        intro a hA
        refine seq_end ?_
        refine hK49 _ _ ?_
        refine wp_cond_true (hA.ev rfl) ?_
        refine wp_region_lit ?_
        refine seq_do hA rfl rfl rfl (does_move rfl) ?_
        intro a hA
        refine seq_do hA rfl rfl rfl (does_move rfl) ?_
        intro a hA
        refine seq_do hA rfl rfl rfl (does_move rfl) ?_
        intro a hA
        refine seq_do hA rfl rfl rfl (does_move rfl) ?_
        intro a hA
        have hi53 : i < l.length := by first | omega | (simp only [List.length_set]; omega)
        refine seq_do (v := .pointer (some ⟨g5, 0 + i, none⟩)) hA rfl rfl rfl (does_indexRow (k := i) Try.underlying22 (by kernel_rfl) rfl rfl (by omega) rfl (by omega)) ?_
        intro a hA
        refine seq_do (v := .int .u32 (((l.getD i 0 : Nat) : Int))) hA rfl rfl rfl (does_loadRow (hS.row 0 rfl).rd rfl hi53 is1_41 rfl) ?_
        intro a hA
        refine seq_do (v := .int .u32 (((l.getD i 0 ^^^ 4294967295 : Nat) : Int))) hA rfl rfl rfl (does_un rfl (un_xorU (Dig.getD ((hS.row 0 rfl).rd.dig) _))) ?_
        intro a hA
        have hi57 : i < l.length := by first | omega | (simp only [List.length_set]; omega)
        refine seq_do (v := .pointer (some ⟨g5, 0 + i, none⟩)) hA rfl rfl rfl (does_indexRow (k := i) Try.underlying22 (by kernel_rfl) rfl rfl (by omega) rfl (by omega)) ?_
        intro a hA
        refine seq_row (us' := l.set i (l.getD i 0 ^^^ 4294967295)) hA hS rfl rfl (sets_row (d := l.getD i 0 ^^^ 4294967295) (by kernel_rfl) rfl rfl hS 0 rfl hi57) 0 rfl (Nat.xor_lt_two_pow (n := 32) (Dig.getD (hS.row 0 rfl).rd.dig _) (by decide)) rfl ?_
        intro w58 hS
        refine seq_end ?_
        refine hK26 _ _ ?_
        refine wp_region_lit ?_
        refine seq_do hA rfl rfl rfl (does_move rfl) ?_
        intro a hA
        refine seq_do (v := .int .i64 (((i + 1 : Nat) : Int))) hA rfl rfl rfl (does_bin rfl rfl (fun w => (bin_add (i64In (by omega) (by omega)) w).trans (by rw [show (((i : Nat) : Int) + 1 : Int) = ((i + 1 : Nat) : Int) from by omega]))) ?_
        intro a hA
        refine seq_do hA rfl rfl rfl (does_assign rfl) ?_
        intro a hA
        refine seq_end ?_
        refine hK21 _ _ _ (by omega) ⟨i + 1, l.set i (l.getD i 0 ^^^ 4294967295), rfl, ⟨by omega, hrow9.step (by simp only [List.length_set]; exact hrow9.1) (by rw [getD_set _ _ _ _ (by omega), if_pos rfl, hrow9.2.2 i (Nat.le_refl _), rwd_end (by omega)]; rfl) (fun j hj => by rw [getD_set _ _ _ _ (by omega), if_neg hj])⟩, hA.keep _ ⟨rfl, rfl, rfl, rfl, rfl, rfl, rfl, rfl, rfl, rfl, rfl, rfl, rfl, rfl, rfl, trivial⟩, ((hS.pickR [(p13_4, [1]), (p13_3, []), (p13_2, [1]), (p13_1, words (turnN true x)), (a4, [1]), (a3, []), (a2, [1]), (a1, words x)] ⟨⟨0, rfl⟩, ⟨⟨1, rfl⟩, ⟨⟨2, rfl⟩, ⟨⟨3, rfl⟩, ⟨⟨4, rfl⟩, ⟨⟨5, rfl⟩, ⟨⟨6, rfl⟩, ⟨⟨7, rfl⟩, trivial⟩⟩⟩⟩⟩⟩⟩⟩).subL _ (.cons_cons _ (.cons_cons _ .slnil)))⟩
    · have hb25' := of_decide_eq_false hb25
      refine seq_do (v := .bool false) hA rfl rfl rfl (does_bin rfl rfl (fun w => (bin_lss w).trans (by rw [hb25]))) ?_
      intro a hA
      refine seq_end ?_
      refine hK24 _ _ ?_
      refine wp_cond_false (hA.ev rfl) ?_
      refine wp_exit ?_
      refine hK18 _ _ ?_
      refine wp_seq_k (fun K59 hK59 => ?_)
      refine wp_region_lit ?_
      refine seq_do hA rfl rfl rfl (does_move rfl) ?_
      intro a hA
      refine seq_do hA rfl rfl rfl (does_assign rfl) ?_
      intro a hA
      refine seq_end ?_
      refine hK59 _ _ ?_
      refine wp_ret ?_
      refine hret _ _ ?_
      refine ends (v := .slice (some ⟨g5, 0, none⟩) n n) hA rfl (.cons (res_tmp rfl) .nil) rfl ?_
      have hi9 : i = n := by omega
      subst hi9
      have el := hrow9.done
      subst el
      rw [show (AnsRow w (rowL true (x - true.toNat) i)) = AnsRow w (rowL true (turnN true x) i) from rfl]
      exact ⟨_, _, by rw [rowL_len], hS.row 0 rfl, hS.bel⟩
theorem rnumberT_any {w : World} {u : List Nat} {wo : Option Addr} {wc : Nat} (hd : Dig u) (h0 : 0 < u.length) (h1 : u.length ≤ 2500) (hlast : u.getD (u.length - 1) 0 = 0) (hw : Sc w wo wc (twos true u)) : Calls Try.prog 26 #[.slice wo (twos true u).length wc] w (AnsN w (bigS true (val u + true.toNat))) := by
  have hlen9 := twos_len true u
  have htop9 : (twos true u).getD ((twos true u).length - 1) 0 = 4294967295 := by rw [twos_len, twos_get (by omega), hlast]; rfl
  have hS : St w w [] [] [] := St.start w
  refine walk_of (l := [(0, .slice wo ((twos true u).length) wc)]) Try.func26 rfl Try.ntmps26 rfl rfl ?_
  intro Q hret hnorm hP a hA
  refine wp_seq_k (fun K1 hK1 => ?_)
  refine wp_region_lit ?_
  refine seq_new (vs := [.bool false, .slice none 0 0, .slice none 0 0, .bool false, .slice none 0 0, .slice none 0 0]) (t := 26) hA hS rfl rfl rfl (fun g => .pointer (some ⟨g, 0, none⟩)) (does_alloc (z := .agg #[.bool false, .slice none 0 0, .slice none 0 0, .bool false, .slice none 0 0, .slice none 0 0]) (by kernel_rfl) rfl) rfl ?_
  intro g2 w3 hS a hA
  refine seq_do hA rfl rfl rfl (does_assign rfl) ?_
  intro a hA
  refine seq_end ?_
  refine hK1 _ _ ?_
  refine wp_seq_k (fun K4 hK4 => ?_)
  refine wp_region_lit ?_
  refine seq_call hA rfl rfl rfl (enters_func  rfl rfl (fun w => by kernel_rfl)) (rzero_any _) ?_
  rintro _ w9 ⟨f5_1, f5_c1, f5_2, f5_c2, rfl, hs6, hs7, hb8⟩
  replace hS := hS.call hb8
  replace hS := hS.addR hs6.rd
  replace hS := hS.addR hs7.rd
  refine ⟨_, rfl, ?_⟩
  intro a hA
  refine seq_call hA rfl rfl rfl (enters_func  rfl rfl (fun w => by kernel_rfl)) (rzero_any _) ?_
  rintro _ w14 ⟨f10_1, f10_c1, f10_2, f10_c2, rfl, hs11, hs12, hb13⟩
  replace hS := hS.call hb13
  replace hS := hS.addR hs11.rd
  replace hS := hS.addR hs12.rd
  refine ⟨_, rfl, ?_⟩
  intro a hA
  refine seq_do (v := .agg #[.bool false, .slice f5_1 0 f5_c1, .slice f5_2 1 f5_c2, .bool false, .slice f10_1 0 f10_c1, .slice f10_2 1 f10_c2]) hA rfl rfl rfl (does_build rfl (fun w => by kernel_rfl)) ?_
  intro a hA
  refine seq_new (vs := [.bool false, .slice none 0 0, .slice none 0 0, .bool false, .slice none 0 0, .slice none 0 0]) (t := 26) hA hS rfl rfl rfl (fun g => .pointer (some ⟨g, 0, none⟩)) (does_alloc (z := .agg #[.bool false, .slice none 0 0, .slice none 0 0, .bool false, .slice none 0 0, .slice none 0 0]) (by kernel_rfl) rfl) rfl ?_
  intro g15 w16 hS a hA
  refine seq_store (us := [.bool false, .slice f5_1 0 f5_c1, .slice f5_2 1 f5_c2, .bool false, .slice f10_1 0 f10_c1, .slice f10_2 1 f10_c2]) hA hS rfl rfl (sets_store (cs := [.bool false, .slice f5_1 0 f5_c1, .slice f5_2 1 f5_c2, .bool false, .slice f10_1 0 f10_c1, .slice f10_2 1 f10_c2]) rfl rfl rfl (by kernel_rfl) hS 0 rfl rfl rfl) 0 rfl rfl rfl rfl ?_
  intro w17 hS
  refine seq_end ?_
  refine hK4 _ _ ?_
  refine wp_seq_k (fun K18 hK18 => ?_)
  refine wp_seq_k (fun K19 hK19 => ?_)
  refine wp_region_lit ?_
  refine seq_do hA rfl rfl rfl (does_move rfl) ?_
  intro a hA
  refine seq_do hA rfl rfl rfl (does_move rfl) ?_
  intro a hA
  refine seq_do (v := .int .i64 ((((twos true u).length : Nat) : Int))) hA rfl rfl rfl (does_len Try.underlying22 rfl) ?_
  intro a hA
  refine seq_do (v := .int .i64 ((((twos true u).length - 1 : Nat) : Int))) hA rfl rfl rfl (does_bin rfl rfl (fun w => (bin_sub (i64In (by omega) (by omega)) w).trans (by rw [show ((((twos true u).length : Nat) : Int) - 1 : Int) = (((twos true u).length - 1 : Nat) : Int) from by omega]))) ?_
  intro a hA
  have hi23 : (twos true u).length - 1 < (twos true u).length := by first | omega | (simp only [List.length_set]; omega)
  obtain ⟨b20, f21, hso22⟩ := Rd.addr (hw.rd.below hS.bel) hi23
  refine seq_do (v := .pointer (some ⟨b20, f21 + ((twos true u).length - 1), none⟩)) hA rfl rfl rfl (does_indexRow (k := (twos true u).length - 1) Try.underlying22 (by kernel_rfl) rfl rfl (by omega) hso22 hi23) ?_
  intro a hA
  refine seq_do (v := .int .u32 ((((twos true u).getD ((twos true u).length - 1) 0 : Nat) : Int))) hA rfl rfl rfl (does_loadRow (hw.rd.below hS.bel) hso22 hi23 is1_41 rfl) ?_
  intro a hA
  refine seq_do (v := .int .u32 ((((twos true u).getD ((twos true u).length - 1) 0 / 2 ^ 31 : Nat) : Int))) hA rfl rfl rfl (does_bin rfl rfl (bin_shr (Dig.getD (hw.rd.below hS.bel).dig _) (by decide))) ?_
  intro a hA
  refine seq_do (v := .bool true) hA rfl rfl rfl (does_bin rfl rfl (fun w => (bin_eql w).trans (by rw [show (((((twos true u).getD ((twos true u).length - 1) 0 / 2 ^ 31 : Nat) : Int) == 1)) = true from (by rw [htop9]; rfl)]))) ?_
  intro a hA
  refine seq_end ?_
  refine hK19 _ _ ?_
  refine wp_cond_true (hA.ev rfl) ?_
  refine wp_seq_k (fun K24 hK24 => ?_)
  refine wp_region_lit ?_
  refine seq_empty hA hS rfl rfl rfl (does_buildSlice rfl (by kernel_rfl)) ?_
  intro g25 w26 hS a hA
  refine seq_do hA rfl rfl rfl (does_assign rfl) ?_
  intro a hA
  refine seq_end ?_
  refine hK24 _ _ ?_
  refine wp_seq_k (fun K27 hK27 => ?_)
  refine wp_seq_k (fun K28 hK28 => ?_)
  refine wp_region_lit ?_
  refine seq_do hA rfl rfl rfl (does_assign rfl) ?_
  intro a hA
  refine seq_end ?_
  refine hK28 _ _ ?_
  refine wp_block ?_
  refine wp_loop_n (fun m a w1 => ∃ (i : Nat) (ro : Option Addr) (rc : Nat), m = u.length - i ∧ (i ≤ u.length) ∧ Sl a 50 [(0, .slice wo ((twos true u).length) wc), (2, .pointer (some ⟨g2, 0, none⟩)), (3, .int .i64 0), (4, .pointer (some ⟨g15, 0, none⟩)), (5, .slice ro ((u.take i).length) rc), (6, .int .i64 (((i : Nat) : Int))), (7, .agg #[.bool false, .slice f5_1 0 f5_c1, .slice f5_2 1 f5_c2]), (8, .agg #[.bool false, .slice f10_1 0 f10_c1, .slice f10_2 1 f10_c2]), (9, .agg #[.bool false, .slice f5_1 0 f5_c1, .slice f5_2 1 f5_c2, .bool false, .slice f10_1 0 f10_c1, .slice f10_2 1 f10_c2]), (10, .slice wo ((twos true u).length) wc), (11, .slice wo ((twos true u).length) wc), (12, .int .i64 ((((twos true u).length : Nat) : Int))), (13, .int .i64 ((((twos true u).length - 1 : Nat) : Int))), (14, .pointer (some ⟨b20, f21 + ((twos true u).length - 1), none⟩)), (15, .int .u32 ((((twos true u).getD ((twos true u).length - 1) 0 : Nat) : Int))), (16, .int .u32 ((((twos true u).getD ((twos true u).length - 1) 0 / 2 ^ 31 : Nat) : Int))), (17, .bool true), (18, .slice (some ⟨g25, 0, none⟩) 0 0)] ∧ St w w1 [(g15, [.bool false, .slice f5_1 0 f5_c1, .slice f5_2 1 f5_c2, .bool false, .slice f10_1 0 f10_c1, .slice f10_2 1 f10_c2]), (g2, [.bool false, .slice none 0 0, .slice none 0 0, .bool false, .slice none 0 0, .slice none 0 0])] [(f10_2, [1]), (f10_1, []), (f5_2, [1]), (f5_1, [])] [(ro, rc, u.take i)]) _ ⟨0, some ⟨g25, 0, none⟩, 0, rfl, (Nat.zero_le _), hA.keep _ ⟨rfl, rfl, rfl, rfl, rfl, rfl, rfl, rfl, rfl, rfl, rfl, rfl, rfl, rfl, rfl, rfl, rfl, rfl, trivial⟩, hS⟩ ?_
  clear hS hA
  rintro m a w29 ⟨i, ro, rc, rfl, hinv31, hA, hS⟩ K30 hK30
  have htl9 : (u.take i).length ≤ u.length := by rw [List.length_take]; omega
  refine wp_seq_k (fun K32 hK32 => ?_)
  refine wp_seq_k (fun K33 hK33 => ?_)
  refine wp_region_lit ?_
  refine seq_do hA rfl rfl rfl (does_move rfl) ?_
  intro a hA
  refine seq_do hA rfl rfl rfl (does_move rfl) ?_
  intro a hA
  refine seq_do (v := .int .i64 ((((twos true u).length : Nat) : Int))) hA rfl rfl rfl (does_len Try.underlying22 rfl) ?_
  intro a hA
  rcases Bool.eq_false_or_eq_true (decide (((i : Nat) : Int) < (((twos true u).length : Nat) : Int))) with hb34 | hb34
  · have hb34' := of_decide_eq_true hb34
    refine seq_do (v := .bool true) hA rfl rfl rfl (does_bin rfl rfl (fun w => (bin_lss w).trans (by rw [hb34]))) ?_
    intro a hA
    refine seq_end ?_
    refine hK33 _ _ ?_
    refine wp_cond_true (hA.ev rfl) ?_
    refine wp_skip ?_
    refine hK32 _ _ ?_
    refine wp_seq_k (fun K35 hK35 => ?_)
    refine wp_block ?_
    refine wp_region_lit ?_
    refine seq_do hA rfl rfl rfl (does_move rfl) ?_
    intro a hA
    refine seq_do hA rfl rfl rfl (does_move rfl) ?_
    intro a hA
    refine seq_do hA rfl rfl rfl (does_move rfl) ?_
    intro a hA
    have hi39 : i < (twos true u).length := by first | omega | (simp only [List.length_set]; omega)
    obtain ⟨b36, f37, hso38⟩ := Rd.addr (hw.rd.below hS.bel) hi39
    refine seq_do (v := .pointer (some ⟨b36, f37 + i, none⟩)) hA rfl rfl rfl (does_indexRow (k := i) Try.underlying22 (by kernel_rfl) rfl rfl (by omega) hso38 hi39) ?_
    intro a hA
    refine seq_do (v := .int .u32 ((((twos true u).getD i 0 : Nat) : Int))) hA rfl rfl rfl (does_loadRow (hw.rd.below hS.bel) hso38 hi39 is1_41 rfl) ?_
    intro a hA
    refine seq_do (v := .int .u32 ((((twos true u).getD i 0 ^^^ 4294967295 : Nat) : Int))) hA rfl rfl rfl (does_un rfl (un_xorU (Dig.getD ((hw.rd.below hS.bel).dig) _))) ?_
    intro a hA
    refine seq_newU (us := [(twos true u).getD i 0 ^^^ 4294967295]) (t := 41) (m := 1) hA hS rfl rfl rfl (does_buildSlice rfl (by kernel_rfl)) (by intro z hz; rw [List.mem_singleton] at hz; subst hz; exact (Nat.xor_lt_two_pow (n := 32) (Dig.getD (hw.rd.below hS.bel).dig _) (by decide))) ?_
    intro g40 w41 hS a hA
    refine seq_append (k := 0) (us := u.take i) (news := [(twos true u).getD i 0 ^^^ 4294967295]) hA rfl rfl rfl (does_append Try.underlying22 rfl (by kernel_rfl) hS 0 rfl rfl rfl 0 rfl rfl rfl (by first | omega | (simp only [List.length_append, List.length_cons, List.length_nil]; omega))) ?_
    intro g43 rc44 w42 hS a hA
    refine seq_do hA rfl rfl rfl (does_assign rfl) ?_
    intro a hA
    refine seq_end ?_
    refine hK35 _ _ ?_
    refine wp_region_lit ?_
    refine seq_do hA rfl rfl rfl (does_move rfl) ?_
    intro a hA
    refine seq_do (v := .int .i64 (((i + 1 : Nat) : Int))) hA rfl rfl rfl (does_bin rfl rfl (fun w => (bin_add (i64In (by omega) (by omega)) w).trans (by rw [show (((i : Nat) : Int) + 1 : Int) = ((i + 1 : Nat) : Int) from by omega]))) ?_
    intro a hA
    refine seq_do hA rfl rfl rfl (does_assign rfl) ?_
    intro a hA
    refine seq_end ?_
    rw [take_snoc (by omega) (twos_back (by omega))] at hS hA
    refine hK30 _ _ _ (by omega) ⟨i + 1, some ⟨g43, 0, none⟩, rc44, rfl, (by omega), hA.keep _ ⟨rfl, rfl, rfl, rfl, rfl, rfl, rfl, rfl, rfl, rfl, rfl, rfl, rfl, rfl, rfl, rfl, rfl, rfl, trivial⟩, ((hS.pickR [(f10_2, [1]), (f10_1, []), (f5_2, [1]), (f5_1, [])] ⟨⟨1, rfl⟩, ⟨⟨2, rfl⟩, ⟨⟨3, rfl⟩, ⟨⟨4, rfl⟩, trivial⟩⟩⟩⟩).subL _ (.cons_cons _ (.cons_cons _ .slnil)))⟩
  · have hb34' := of_decide_eq_false hb34
    refine seq_do (v := .bool false) hA rfl rfl rfl (does_bin rfl rfl (fun w => (bin_lss w).trans (by rw [hb34]))) ?_
    intro a hA
    refine seq_end ?_
    refine hK33 _ _ ?_
    refine wp_cond_false (hA.ev rfl) ?_
    refine wp_exit ?_
    refine hK27 _ _ ?_
    refine wp_seq_k (fun K45 hK45 => ?_)
    refine wp_region_lit ?_
    refine seq_do hA rfl rfl rfl (does_move rfl) ?_
    intro a hA
    refine seq_call hA rfl rfl rfl (enters_func  rfl rfl (fun w => by kernel_rfl)) (rnorm_own (u := u) (hS.row 0 rfl) (by rw [show i = u.length from by omega, List.take_length]) (by omega)) ?_
    rintro _ w50 ⟨ro46, rc47, rfl, ho48, hb49⟩
    have hS0 := hS
    replace hS := hS.call hb49
    replace hS := hS.addRO ho48.rd (hS0.fresh ho48)
    refine ⟨_, rfl, ?_⟩
    intro a hA
    refine seq_do (v := .pointer (some ⟨g15, 0, none⟩)) hA rfl rfl rfl (does_field fld_26_0 rfl rfl) ?_
    intro a hA
    refine seq_do (v := .pointer (some ⟨g15, 1, none⟩)) hA rfl rfl rfl (does_field fld_24_1 rfl rfl) ?_
    intro a hA
    refine seq_store (us := [.bool false, .slice ro46 ((words (val u)).length) rc47, .slice f5_2 1 f5_c2, .bool false, .slice f10_1 0 f10_c1, .slice f10_2 1 f10_c2]) hA hS rfl rfl (sets_store (cs := [.slice ro46 ((words (val u)).length) rc47]) rfl rfl rfl (by kernel_rfl) hS 0 rfl rfl rfl) 0 rfl rfl rfl rfl ?_
    intro w51 hS
    refine seq_end ?_
    refine hK45 _ _ ?_
    refine wp_region_lit ?_
    refine seq_do (v := .agg #[.bool false, .slice ro46 ((words (val u)).length) rc47, .slice f5_2 1 f5_c2, .bool false, .slice f10_1 0 f10_c1, .slice f10_2 1 f10_c2]) hA rfl rfl rfl (does_loadS hS isS_26 rfl 0 rfl (cs := [.bool false, .slice ro46 ((words (val u)).length) rc47, .slice f5_2 1 f5_c2, .bool false, .slice f10_1 0 f10_c1, .slice f10_2 1 f10_c2]) rfl rfl) ?_
    intro a hA
    refine seq_call hA rfl rfl rfl (enters_func  rfl rfl (fun w => by kernel_rfl)) (rturn_any (b := false) (x := val u) (show Nm _ _ ro46 rc47 f5_2 f5_c2 f10_1 f10_c1 f10_2 f10_c2 from ⟨⟨(hS.rd 0 rfl), ho48.nocap, ho48.caps⟩, ⟨(hS.rd 3 rfl), hs7.nil, hs7.cap⟩, ⟨(hS.rd 2 rfl), hs11.nil, hs11.cap⟩, ⟨(hS.rd 1 rfl), hs12.nil, hs12.cap⟩⟩) (Nat.le_trans (val_len hd) (by omega)) (by simp)) ?_
    rintro _ w55 ⟨p52_1, p52_c1, p52_2, p52_c2, p52_3, p52_c3, p52_4, p52_c4, rfl, hn53, hb54⟩
    replace hS := hS.subO [] (.cons _ .slnil)
    replace hS := hS.call hb54
    replace hS := hS.addR hn53.s1.rd
    replace hS := hS.addR hn53.s2.rd
    replace hS := hS.addR hn53.s3.rd
    replace hS := hS.addR hn53.s4.rd
    refine ⟨_, rfl, ?_⟩
    intro a hA
    refine seq_store (us := [.bool true, .slice p52_1 ((words (turnN false (val u))).length) p52_c1, .slice p52_2 1 p52_c2, .bool false, .slice p52_3 0 p52_c3, .slice p52_4 1 p52_c4]) hA hS rfl rfl (sets_store (cs := [.bool true, .slice p52_1 ((words (turnN false (val u))).length) p52_c1, .slice p52_2 1 p52_c2, .bool false, .slice p52_3 0 p52_c3, .slice p52_4 1 p52_c4]) rfl rfl rfl (by kernel_rfl) hS 0 rfl rfl rfl) 0 rfl rfl rfl rfl ?_
    intro w56 hS
    refine seq_end ?_
    refine hK18 _ _ ?_
    refine wp_seq_k (fun K57 hK57 => ?_)
    refine wp_seq_k (fun K58 hK58 => ?_)
    refine wp_region_lit ?_
    refine seq_do (v := .pointer (some ⟨g15, 0, none⟩)) hA rfl rfl rfl (does_field fld_26_0 rfl rfl) ?_
    intro a hA
    refine seq_do (v := .pointer (some ⟨g15, 1, none⟩)) hA rfl rfl rfl (does_field fld_24_1 rfl rfl) ?_
    intro a hA
    refine seq_do hA rfl rfl rfl (does_load1 hS is1_22 rfl 0 rfl rfl) ?_
    intro a hA
    refine seq_do (v := .int .i64 ((((words (turnN false (val u))).length : Nat) : Int))) hA rfl rfl rfl (does_len Try.underlying22 rfl) ?_
    intro a hA
    rcases Bool.eq_false_or_eq_true (decide (512 < (((words (turnN false (val u))).length : Nat) : Int))) with hb59 | hb59
    · have hb59' := of_decide_eq_true hb59
      refine seq_do (v := .bool true) hA rfl rfl rfl (does_bin rfl rfl (fun w => (bin_gtr w).trans (by rw [hb59]))) ?_
      intro a hA
      refine seq_end ?_
      refine hK58 _ _ ?_
      refine wp_cond_true (hA.ev rfl) ?_
      refine wp_seq_k (fun K60 hK60 => ?_)
      refine wp_region_lit ?_
      refine seq_do (v := .agg #[.bool false, .slice none 0 0, .slice none 0 0, .bool false, .slice none 0 0, .slice none 0 0]) hA rfl rfl rfl (does_build rfl (fun w => by kernel_rfl)) ?_
      intro a hA
      refine seq_store (us := [.bool false, .slice none 0 0, .slice none 0 0, .bool false, .slice none 0 0, .slice none 0 0]) hA hS rfl rfl (sets_store (cs := [.bool false, .slice none 0 0, .slice none 0 0, .bool false, .slice none 0 0, .slice none 0 0]) rfl rfl rfl (by kernel_rfl) hS 1 rfl rfl rfl) 1 rfl rfl rfl rfl ?_
      intro w61 hS
      refine seq_do hA rfl rfl rfl (does_assign rfl) ?_
      intro a hA
      refine seq_end ?_
      refine hK60 _ _ ?_
      refine wp_ret ?_
      refine hret _ _ ?_
      refine ends (v := .tuple #[.agg #[.bool false, .slice none 0 0, .slice none 0 0, .bool false, .slice none 0 0, .slice none 0 0], .int .i64 4]) hA rfl (.cons (res_cell hS isS_26 rfl 1 rfl (cs := [.bool false, .slice none 0 0, .slice none 0 0, .bool false, .slice none 0 0, .slice none 0 0]) rfl rfl) (.cons (res_tmp rfl) .nil)) rfl ?_
      rw [show val u + true.toNat = turnN false (val u) from rfl, bigS_neg (by omega)]
      exact ⟨none, 0, none, 0, none, 0, none, 0, rfl, ⟨(Sc.none _), (Sc.none _), (Sc.none _), (Sc.none _)⟩, hS.bel⟩
    · have hb59' := of_decide_eq_false hb59
      refine seq_do (v := .bool false) hA rfl rfl rfl (does_bin rfl rfl (fun w => (bin_gtr w).trans (by rw [hb59]))) ?_
      intro a hA
      refine seq_end ?_
      refine hK58 _ _ ?_
      refine wp_cond_false (hA.ev rfl) ?_
      refine wp_skip ?_
      refine hK57 _ _ ?_
      refine wp_seq_k (fun K62 hK62 => ?_)
      refine wp_region_lit ?_
      refine seq_do (v := .agg #[.bool true, .slice p52_1 ((words (turnN false (val u))).length) p52_c1, .slice p52_2 1 p52_c2, .bool false, .slice p52_3 0 p52_c3, .slice p52_4 1 p52_c4]) hA rfl rfl rfl (does_loadS hS isS_26 rfl 0 rfl (cs := [.bool true, .slice p52_1 ((words (turnN false (val u))).length) p52_c1, .slice p52_2 1 p52_c2, .bool false, .slice p52_3 0 p52_c3, .slice p52_4 1 p52_c4]) rfl rfl) ?_
      intro a hA
      refine seq_store (us := [.bool true, .slice p52_1 ((words (turnN false (val u))).length) p52_c1, .slice p52_2 1 p52_c2, .bool false, .slice p52_3 0 p52_c3, .slice p52_4 1 p52_c4]) hA hS rfl rfl (sets_store (cs := [.bool true, .slice p52_1 ((words (turnN false (val u))).length) p52_c1, .slice p52_2 1 p52_c2, .bool false, .slice p52_3 0 p52_c3, .slice p52_4 1 p52_c4]) rfl rfl rfl (by kernel_rfl) hS 1 rfl rfl rfl) 1 rfl rfl rfl rfl ?_
      intro w63 hS
      refine seq_do hA rfl rfl rfl (does_assign rfl) ?_
      intro a hA
      refine seq_end ?_
      refine hK62 _ _ ?_
      refine wp_ret ?_
      refine hret _ _ ?_
      refine ends (v := .tuple #[.agg #[.bool true, .slice p52_1 ((words (turnN false (val u))).length) p52_c1, .slice p52_2 1 p52_c2, .bool false, .slice p52_3 0 p52_c3, .slice p52_4 1 p52_c4], .int .i64 0]) hA rfl (.cons (res_cell hS isS_26 rfl 1 rfl (cs := [.bool true, .slice p52_1 ((words (turnN false (val u))).length) p52_c1, .slice p52_2 1 p52_c2, .bool false, .slice p52_3 0 p52_c3, .slice p52_4 1 p52_c4]) rfl rfl) (.cons (res_tmp rfl) .nil)) rfl ?_
      rw [show val u + true.toNat = turnN false (val u) from rfl, bigS_pos (by omega)]
      exact ⟨p52_1, p52_c1, p52_2, p52_c2, p52_3, p52_c3, p52_4, p52_c4, rfl, ⟨⟨(hS.rd 3 rfl), hn53.s1.nil, hn53.s1.cap⟩, ⟨(hS.rd 2 rfl), hn53.s2.nil, hn53.s2.cap⟩, ⟨(hS.rd 1 rfl), hn53.s3.nil, hn53.s3.cap⟩, ⟨(hS.rd 0 rfl), hn53.s4.nil, hn53.s4.cap⟩⟩, hS.bel⟩
theorem rnumberF_any {w : World} {u : List Nat} {wo : Option Addr} {wc : Nat} (hd : Dig u) (h0 : 0 < u.length) (h1 : u.length ≤ 2500) (hlast : u.getD (u.length - 1) 0 = 0) (hw : Sc w wo wc u) : Calls Try.prog 26 #[.slice wo u.length wc] w (AnsN w (bigS false (val u + false.toNat))) := by
  have htop9 : u.getD (u.length - 1) 0 = 0 := hlast
  have hS : St w w [] [] [] := St.start w
  refine walk_of (l := [(0, .slice wo u.length wc)]) Try.func26 rfl Try.ntmps26 rfl rfl ?_
  intro Q hret hnorm hP a hA
  refine wp_seq_k (fun K1 hK1 => ?_)
  refine wp_region_lit ?_
  refine seq_new (vs := [.bool false, .slice none 0 0, .slice none 0 0, .bool false, .slice none 0 0, .slice none 0 0]) (t := 26) hA hS rfl rfl rfl (fun g => .pointer (some ⟨g, 0, none⟩)) (does_alloc (z := .agg #[.bool false, .slice none 0 0, .slice none 0 0, .bool false, .slice none 0 0, .slice none 0 0]) (by kernel_rfl) rfl) rfl ?_
  intro g2 w3 hS a hA
  refine seq_do hA rfl rfl rfl (does_assign rfl) ?_
  intro a hA
  refine seq_end ?_
  refine hK1 _ _ ?_
  refine wp_seq_k (fun K4 hK4 => ?_)
  refine wp_region_lit ?_
  refine seq_call hA rfl rfl rfl (enters_func  rfl rfl (fun w => by kernel_rfl)) (rzero_any _) ?_
  rintro _ w9 ⟨f5_1, f5_c1, f5_2, f5_c2, rfl, hs6, hs7, hb8⟩
  replace hS := hS.call hb8
  replace hS := hS.addR hs6.rd
  replace hS := hS.addR hs7.rd
  refine ⟨_, rfl, ?_⟩
  intro a hA
  refine seq_call hA rfl rfl rfl (enters_func  rfl rfl (fun w => by kernel_rfl)) (rzero_any _) ?_
  rintro _ w14 ⟨f10_1, f10_c1, f10_2, f10_c2, rfl, hs11, hs12, hb13⟩
  replace hS := hS.call hb13
  replace hS := hS.addR hs11.rd
  replace hS := hS.addR hs12.rd
  refine ⟨_, rfl, ?_⟩
  intro a hA
  refine seq_do (v := .agg #[.bool false, .slice f5_1 0 f5_c1, .slice f5_2 1 f5_c2, .bool false, .slice f10_1 0 f10_c1, .slice f10_2 1 f10_c2]) hA rfl rfl rfl (does_build rfl (fun w => by kernel_rfl)) ?_
  intro a hA
  refine seq_new (vs := [.bool false, .slice none 0 0, .slice none 0 0, .bool false, .slice none 0 0, .slice none 0 0]) (t := 26) hA hS rfl rfl rfl (fun g => .pointer (some ⟨g, 0, none⟩)) (does_alloc (z := .agg #[.bool false, .slice none 0 0, .slice none 0 0, .bool false, .slice none 0 0, .slice none 0 0]) (by kernel_rfl) rfl) rfl ?_
  intro g15 w16 hS a hA
  refine seq_store (us := [.bool false, .slice f5_1 0 f5_c1, .slice f5_2 1 f5_c2, .bool false, .slice f10_1 0 f10_c1, .slice f10_2 1 f10_c2]) hA hS rfl rfl (sets_store (cs := [.bool false, .slice f5_1 0 f5_c1, .slice f5_2 1 f5_c2, .bool false, .slice f10_1 0 f10_c1, .slice f10_2 1 f10_c2]) rfl rfl rfl (by kernel_rfl) hS 0 rfl rfl rfl) 0 rfl rfl rfl rfl ?_
  intro w17 hS
  refine seq_end ?_
  refine hK4 _ _ ?_
  refine wp_seq_k (fun K18 hK18 => ?_)
  refine wp_seq_k (fun K19 hK19 => ?_)
  refine wp_region_lit ?_
  refine seq_do hA rfl rfl rfl (does_move rfl) ?_
  intro a hA
  refine seq_do hA rfl rfl rfl (does_move rfl) ?_
  intro a hA
  refine seq_do (v := .int .i64 (((u.length : Nat) : Int))) hA rfl rfl rfl (does_len Try.underlying22 rfl) ?_
  intro a hA
  refine seq_do (v := .int .i64 (((u.length - 1 : Nat) : Int))) hA rfl rfl rfl (does_bin rfl rfl (fun w => (bin_sub (i64In (by omega) (by omega)) w).trans (by rw [show (((u.length : Nat) : Int) - 1 : Int) = ((u.length - 1 : Nat) : Int) from by omega]))) ?_
  intro a hA
  have hi23 : u.length - 1 < u.length := by first | omega | (simp only [List.length_set]; omega)
  obtain ⟨b20, f21, hso22⟩ := Rd.addr (hw.rd.below hS.bel) hi23
  refine seq_do (v := .pointer (some ⟨b20, f21 + (u.length - 1), none⟩)) hA rfl rfl rfl (does_indexRow (k := u.length - 1) Try.underlying22 (by kernel_rfl) rfl rfl (by omega) hso22 hi23) ?_
  intro a hA
  refine seq_do (v := .int .u32 (((u.getD (u.length - 1) 0 : Nat) : Int))) hA rfl rfl rfl (does_loadRow (hw.rd.below hS.bel) hso22 hi23 is1_41 rfl) ?_
  intro a hA
  refine seq_do (v := .int .u32 (((u.getD (u.length - 1) 0 / 2 ^ 31 : Nat) : Int))) hA rfl rfl rfl (does_bin rfl rfl (bin_shr (Dig.getD (hw.rd.below hS.bel).dig _) (by decide))) ?_
  intro a hA
  refine seq_do (v := .bool false) hA rfl rfl rfl (does_bin rfl rfl (fun w => (bin_eql w).trans (by rw [show ((((u.getD (u.length - 1) 0 / 2 ^ 31 : Nat) : Int) == 1)) = false from (by rw [htop9]; rfl)]))) ?_
  intro a hA
  refine seq_end ?_
  refine hK19 _ _ ?_
  refine wp_cond_false (hA.ev rfl) ?_
  refine wp_region_lit ?_
  refine seq_do hA rfl rfl rfl (does_move rfl) ?_
  intro a hA
  refine seq_call hA rfl rfl rfl (enters_func  rfl rfl (fun w => by kernel_rfl)) (norm_any _ (hw.rd.below hS.bel) (by omega) hw.cap hw.nil) ?_
  rintro _ w28 ⟨ro24, rc25, rfl, ho26, hb27⟩
  replace hS := hS.call hb27
  replace hS := hS.addR ho26.rd
  refine ⟨_, rfl, ?_⟩
  intro a hA
  refine seq_do (v := .pointer (some ⟨g15, 0, none⟩)) hA rfl rfl rfl (does_field fld_26_0 rfl rfl) ?_
  intro a hA
  refine seq_do (v := .pointer (some ⟨g15, 1, none⟩)) hA rfl rfl rfl (does_field fld_24_1 rfl rfl) ?_
  intro a hA
  refine seq_store (us := [.bool false, .slice ro24 ((words (val u)).length) rc25, .slice f5_2 1 f5_c2, .bool false, .slice f10_1 0 f10_c1, .slice f10_2 1 f10_c2]) hA hS rfl rfl (sets_store (cs := [.slice ro24 ((words (val u)).length) rc25]) rfl rfl rfl (by kernel_rfl) hS 0 rfl rfl rfl) 0 rfl rfl rfl rfl ?_
  intro w29 hS
  refine seq_end ?_
  refine hK18 _ _ ?_
  refine wp_seq_k (fun K30 hK30 => ?_)
  refine wp_seq_k (fun K31 hK31 => ?_)
  refine wp_region_lit ?_
  refine seq_do (v := .pointer (some ⟨g15, 0, none⟩)) hA rfl rfl rfl (does_field fld_26_0 rfl rfl) ?_
  intro a hA
  refine seq_do (v := .pointer (some ⟨g15, 1, none⟩)) hA rfl rfl rfl (does_field fld_24_1 rfl rfl) ?_
  intro a hA
  refine seq_do hA rfl rfl rfl (does_load1 hS is1_22 rfl 0 rfl rfl) ?_
  intro a hA
  refine seq_do (v := .int .i64 ((((words (val u)).length : Nat) : Int))) hA rfl rfl rfl (does_len Try.underlying22 rfl) ?_
  intro a hA
  rcases Bool.eq_false_or_eq_true (decide (512 < (((words (val u)).length : Nat) : Int))) with hb32 | hb32
  · have hb32' := of_decide_eq_true hb32
    refine seq_do (v := .bool true) hA rfl rfl rfl (does_bin rfl rfl (fun w => (bin_gtr w).trans (by rw [hb32]))) ?_
    intro a hA
    refine seq_end ?_
    refine hK31 _ _ ?_
    refine wp_cond_true (hA.ev rfl) ?_
    refine wp_seq_k (fun K33 hK33 => ?_)
    refine wp_region_lit ?_
    refine seq_do (v := .agg #[.bool false, .slice none 0 0, .slice none 0 0, .bool false, .slice none 0 0, .slice none 0 0]) hA rfl rfl rfl (does_build rfl (fun w => by kernel_rfl)) ?_
    intro a hA
    refine seq_store (us := [.bool false, .slice none 0 0, .slice none 0 0, .bool false, .slice none 0 0, .slice none 0 0]) hA hS rfl rfl (sets_store (cs := [.bool false, .slice none 0 0, .slice none 0 0, .bool false, .slice none 0 0, .slice none 0 0]) rfl rfl rfl (by kernel_rfl) hS 1 rfl rfl rfl) 1 rfl rfl rfl rfl ?_
    intro w34 hS
    refine seq_do hA rfl rfl rfl (does_assign rfl) ?_
    intro a hA
    refine seq_end ?_
    refine hK33 _ _ ?_
    refine wp_ret ?_
    refine hret _ _ ?_
    refine ends (v := .tuple #[.agg #[.bool false, .slice none 0 0, .slice none 0 0, .bool false, .slice none 0 0, .slice none 0 0], .int .i64 4]) hA rfl (.cons (res_cell hS isS_26 rfl 1 rfl (cs := [.bool false, .slice none 0 0, .slice none 0 0, .bool false, .slice none 0 0, .slice none 0 0]) rfl rfl) (.cons (res_tmp rfl) .nil)) rfl ?_
    rw [show val u + false.toNat = val u from rfl, bigS_neg (by omega)]
    exact ⟨none, 0, none, 0, none, 0, none, 0, rfl, ⟨(Sc.none _), (Sc.none _), (Sc.none _), (Sc.none _)⟩, hS.bel⟩
  · have hb32' := of_decide_eq_false hb32
    refine seq_do (v := .bool false) hA rfl rfl rfl (does_bin rfl rfl (fun w => (bin_gtr w).trans (by rw [hb32]))) ?_
    intro a hA
    refine seq_end ?_
    refine hK31 _ _ ?_
    refine wp_cond_false (hA.ev rfl) ?_
    refine wp_skip ?_
    refine hK30 _ _ ?_
    refine wp_seq_k (fun K35 hK35 => ?_)
    refine wp_region_lit ?_
    refine seq_do (v := .agg #[.bool false, .slice ro24 ((words (val u)).length) rc25, .slice f5_2 1 f5_c2, .bool false, .slice f10_1 0 f10_c1, .slice f10_2 1 f10_c2]) hA rfl rfl rfl (does_loadS hS isS_26 rfl 0 rfl (cs := [.bool false, .slice ro24 ((words (val u)).length) rc25, .slice f5_2 1 f5_c2, .bool false, .slice f10_1 0 f10_c1, .slice f10_2 1 f10_c2]) rfl rfl) ?_
    intro a hA
    refine seq_store (us := [.bool false, .slice ro24 ((words (val u)).length) rc25, .slice f5_2 1 f5_c2, .bool false, .slice f10_1 0 f10_c1, .slice f10_2 1 f10_c2]) hA hS rfl rfl (sets_store (cs := [.bool false, .slice ro24 ((words (val u)).length) rc25, .slice f5_2 1 f5_c2, .bool false, .slice f10_1 0 f10_c1, .slice f10_2 1 f10_c2]) rfl rfl rfl (by kernel_rfl) hS 1 rfl rfl rfl) 1 rfl rfl rfl rfl ?_
    intro w36 hS
    refine seq_do hA rfl rfl rfl (does_assign rfl) ?_
    intro a hA
    refine seq_end ?_
    refine hK35 _ _ ?_
    refine wp_ret ?_
    refine hret _ _ ?_
    refine ends (v := .tuple #[.agg #[.bool false, .slice ro24 ((words (val u)).length) rc25, .slice f5_2 1 f5_c2, .bool false, .slice f10_1 0 f10_c1, .slice f10_2 1 f10_c2], .int .i64 0]) hA rfl (.cons (res_cell hS isS_26 rfl 1 rfl (cs := [.bool false, .slice ro24 ((words (val u)).length) rc25, .slice f5_2 1 f5_c2, .bool false, .slice f10_1 0 f10_c1, .slice f10_2 1 f10_c2]) rfl rfl) (.cons (res_tmp rfl) .nil)) rfl ?_
    rw [show val u + false.toNat = val u from rfl, bigS_pos (by omega)]
    exact ⟨ro24, rc25, f5_2, f5_c2, f10_1, f10_c1, f10_2, f10_c2, rfl, ⟨⟨(hS.rd 0 rfl), ho26.nocap, ho26.caps⟩, ⟨(hS.rd 3 rfl), hs7.nil, hs7.cap⟩, ⟨(hS.rd 2 rfl), hs11.nil, hs11.cap⟩, ⟨(hS.rd 1 rfl), hs12.nil, hs12.cap⟩⟩, hS.bel⟩
theorem rnumber_any {w : World} {u : List Nat} {wo : Option Addr} {wc : Nat} (hd : Dig u) (h0 : 0 < u.length) (h1 : u.length ≤ 2500) (hlast : u.getD (u.length - 1) 0 = 0) {s : Bool} {l : List Nat} (hl : l = twos s u) (hw : Sc w wo wc l) : Calls Try.prog 26 #[.slice wo l.length wc] w (AnsN w (bigS s (val u + s.toNat))) := by
  subst hl
  cases s with
  | true => exact rnumberT_any hd h0 h1 hlast hw
  | false =>
    rw [twos_false] at hw ⊢
    exact rnumberF_any hd h0 h1 hlast hw
end Go.Proofs.Yteghiinbafbokaa
