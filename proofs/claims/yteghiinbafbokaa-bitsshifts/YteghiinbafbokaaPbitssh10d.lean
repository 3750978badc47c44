/- Walks of numbers put together bit by bit, and of Not. Numbers of machine words, and sameness. Walks of small numbers, of sameness, of the fixed fact. Walks of the law on shifts. Numbers that come in as arguments. -/
import Derived.Test.YteghiinbafbokaaPbitssh10c
import Derived.Test.YteghiinbafbokaaPbitssh10a
import Derived.Test.YteghiinbafbokaaArgs
import Derived.WalkKit
import Derived.ProofKit
import Derived.OpenShut
import Derived.ChangeOld
import Derived.Lib.SmallJoins
import Derived.Deep.Strs
namespace Go.Proofs.Yteghiinbafbokaa
open Go.RowKit
set_option linter.unusedVariables false
set_option linter.unusedSimpArgs false
set_option maxRecDepth 100000

theorem bitE_any {w : World} {p q : Q6} {a1 a2 a3 a4 : Option Addr} {ac1 ac2 ac3 ac4 : Nat} (ha : Nm w p a1 ac1 a2 ac2 a3 ac3 a4 ac4) (hl : LenQ p) {u1 u2 u3 u4 : Option Addr} {uc1 uc2 uc3 uc4 : Nat} (hu : Nm w q u1 uc1 u2 uc2 u3 uc3 u4 uc4) (hm : LenQ q) {F : FuncId} {fop : Nat → Nat → Nat} {fb : Bool → Bool → Bool} (hF : Fun2 F fop) (hB : BOp fop fb) (hw : (want2 p q != 0) = true) : Calls Try.prog 22 #[.func (.func F) #[] #[], numV p a1 ac1 a2 ac2 a3 ac3 a4 ac4, numV q u1 uc1 u2 uc2 u3 uc3 u4 uc4] w (AnsN w (bitQ fop fb p q)) := by
  have hS : St w w [] [(u4, q.q2), (u3, q.t2), (u2, q.q1), (u1, q.t1), (a4, p.q2), (a3, p.t2), (a2, p.q1), (a1, p.t1)] [] := ((((((((St.start w).addR ha.s1.rd).addR ha.s2.rd).addR ha.s3.rd).addR ha.s4.rd).addR hu.s1.rd).addR hu.s2.rd).addR hu.s3.rd).addR hu.s4.rd
  refine walk_of (l := [(0, .func (.func F) #[] #[]), (1, .agg #[.bool p.b1, .slice a1 p.t1.length ac1, .slice a2 p.q1.length ac2, .bool p.b2, .slice a3 p.t2.length ac3, .slice a4 p.q2.length ac4]), (2, .agg #[.bool q.b1, .slice u1 q.t1.length uc1, .slice u2 q.q1.length uc2, .bool q.b2, .slice u3 q.t2.length uc3, .slice u4 q.q2.length uc4])]) Try.func22 rfl Try.ntmps22 rfl rfl ?_
  intro Q hret hnorm hP a hA
  refine wp_seq_k (fun K1 hK1 => ?_)
  refine wp_region_lit ?_
  refine seq_new (vs := [.bool p.b1, .slice a1 p.t1.length ac1, .slice a2 p.q1.length ac2, .bool p.b2, .slice a3 p.t2.length ac3, .slice a4 p.q2.length ac4]) (t := 26) hA hS rfl rfl rfl (fun g => .pointer (some ⟨g, 0, none⟩)) (does_box rfl rfl) rfl ?_
  intro g2 w3 hS a hA
  refine seq_new (vs := [.bool q.b1, .slice u1 q.t1.length uc1, .slice u2 q.q1.length uc2, .bool q.b2, .slice u3 q.t2.length uc3, .slice u4 q.q2.length uc4]) (t := 26) hA hS rfl rfl rfl (fun g => .pointer (some ⟨g, 0, none⟩)) (does_box rfl rfl) rfl ?_
  intro g4 w5 hS a hA
  refine seq_new (vs := [.bool false, .slice none 0 0, .slice none 0 0, .bool false, .slice none 0 0, .slice none 0 0]) (t := 26) hA hS rfl rfl rfl (fun g => .pointer (some ⟨g, 0, none⟩)) (does_alloc (z := .agg #[.bool false, .slice none 0 0, .slice none 0 0, .bool false, .slice none 0 0, .slice none 0 0]) (by kernel_rfl) rfl) rfl ?_
  intro g6 w7 hS a hA
  refine seq_do hA rfl rfl rfl (does_assign rfl) ?_
  intro a hA
  refine seq_end ?_
  refine hK1 _ _ ?_
  refine wp_seq_k (fun K8 hK8 => ?_)
  refine wp_seq_k (fun K9 hK9 => ?_)
  refine wp_region_lit ?_
  refine seq_do (v := .agg #[.bool p.b1, .slice a1 p.t1.length ac1, .slice a2 p.q1.length ac2, .bool p.b2, .slice a3 p.t2.length ac3, .slice a4 p.q2.length ac4]) hA rfl rfl rfl (does_loadS hS isS_26 rfl 2 rfl (cs := [.bool p.b1, .slice a1 p.t1.length ac1, .slice a2 p.q1.length ac2, .bool p.b2, .slice a3 p.t2.length ac3, .slice a4 p.q2.length ac4]) rfl rfl) ?_
  intro a hA
  refine seq_do (v := .agg #[.bool q.b1, .slice u1 q.t1.length uc1, .slice u2 q.q1.length uc2, .bool q.b2, .slice u3 q.t2.length uc3, .slice u4 q.q2.length uc4]) hA rfl rfl rfl (does_loadS hS isS_26 rfl 1 rfl (cs := [.bool q.b1, .slice u1 q.t1.length uc1, .slice u2 q.q1.length uc2, .bool q.b2, .slice u3 q.t2.length uc3, .slice u4 q.q2.length uc4]) rfl rfl) ?_
  intro a hA
  refine seq_new (vs := [.bool p.b1, .slice a1 p.t1.length ac1, .slice a2 p.q1.length ac2, .bool p.b2, .slice a3 p.t2.length ac3, .slice a4 p.q2.length ac4, .bool q.b1, .slice u1 q.t1.length uc1, .slice u2 q.q1.length uc2, .bool q.b2, .slice u3 q.t2.length uc3, .slice u4 q.q2.length uc4]) (t := 26) hA hS rfl rfl rfl (fun g => .slice (some ⟨g, 0, none⟩) 2 2) (does_buildSlice rfl (by kernel_rfl)) rfl ?_
  intro g10 w11 hS a hA
  refine seq_call hA rfl rfl rfl (enters_func  rfl rfl (fun w => by kernel_rfl)) (want2_any (show Nm _ p a1 ac1 a2 ac2 a3 ac3 a4 ac4 from ⟨⟨(hS.rd 7 rfl), ha.s1.nil, ha.s1.cap⟩, ⟨(hS.rd 6 rfl), ha.s2.nil, ha.s2.cap⟩, ⟨(hS.rd 5 rfl), ha.s3.nil, ha.s3.cap⟩, ⟨(hS.rd 4 rfl), ha.s4.nil, ha.s4.cap⟩⟩) hl (show Nm _ q u1 uc1 u2 uc2 u3 uc3 u4 uc4 from ⟨⟨(hS.rd 3 rfl), hu.s1.nil, hu.s1.cap⟩, ⟨(hS.rd 2 rfl), hu.s2.nil, hu.s2.cap⟩, ⟨(hS.rd 1 rfl), hu.s3.nil, hu.s3.cap⟩, ⟨(hS.rd 0 rfl), hu.s4.nil, hu.s4.cap⟩⟩) hm (hS.blk 0 rfl) rfl) ?_
  rintro _ w13 ⟨rfl, hb12⟩
  replace hS := hS.call hb12
  refine ⟨_, rfl, ?_⟩
  intro a hA
  refine seq_do hA rfl rfl rfl (does_assign rfl) ?_
  intro a hA
  refine seq_end ?_
  refine hK9 _ _ ?_
  refine wp_seq_k (fun K14 hK14 => ?_)
  refine wp_region_lit ?_
  refine seq_do hA rfl rfl rfl (does_move rfl) ?_
  intro a hA
  refine seq_do (v := .bool true) hA rfl rfl rfl (does_bin rfl rfl (fun w => (bin_neq w).trans (by rw [show ((want2 p q != 0)) = true from hw]))) ?_
  intro a hA
  refine seq_end ?_
  refine hK14 _ _ ?_
  refine wp_cond_true (hA.ev rfl) ?_
  refine wp_seq_k (fun K15 hK15 => ?_)
  refine wp_region_lit ?_
  refine seq_do (v := .agg #[.bool false, .slice none 0 0, .slice none 0 0, .bool false, .slice none 0 0, .slice none 0 0]) hA rfl rfl rfl (does_build rfl (fun w => by kernel_rfl)) ?_
  intro a hA
  refine seq_do hA rfl rfl rfl (does_move rfl) ?_
  intro a hA
  refine seq_store (us := [.bool false, .slice none 0 0, .slice none 0 0, .bool false, .slice none 0 0, .slice none 0 0]) hA hS rfl rfl (sets_store (cs := [.bool false, .slice none 0 0, .slice none 0 0, .bool false, .slice none 0 0, .slice none 0 0]) rfl rfl rfl (by kernel_rfl) hS 1 rfl rfl rfl) 1 rfl rfl rfl rfl ?_
  intro w16 hS
  refine seq_do hA rfl rfl rfl (does_assign rfl) ?_
  intro a hA
  refine seq_end ?_
  refine hK15 _ _ ?_
  refine wp_ret ?_
  refine hret _ _ ?_
  refine ends (v := .tuple #[.agg #[.bool false, .slice none 0 0, .slice none 0 0, .bool false, .slice none 0 0, .slice none 0 0], .int .i64 (want2 p q)]) hA rfl (.cons (res_cell hS isS_26 rfl 1 rfl (cs := [.bool false, .slice none 0 0, .slice none 0 0, .bool false, .slice none 0 0, .slice none 0 0]) rfl rfl) (.cons (res_tmp rfl) .nil)) rfl ?_
  rw [bitQ_err hw]
  exact ⟨none, 0, none, 0, none, 0, none, 0, rfl, ⟨(Sc.none _), (Sc.none _), (Sc.none _), (Sc.none _)⟩, hS.bel⟩
theorem bitW_any {w : World} {b1 b2 : Bool} {x1 x2 : Nat} {a1 a2 a3 a4 : Option Addr} {ac1 ac2 ac3 ac4 : Nat} (ha : Nm w (Q6.whole b1 x1) a1 ac1 a2 ac2 a3 ac3 a4 ac4) (hl : LenQ (Q6.whole b1 x1)) {u1 u2 u3 u4 : Option Addr} {uc1 uc2 uc3 uc4 : Nat} (hu : Nm w (Q6.whole b2 x2) u1 uc1 u2 uc2 u3 uc3 u4 uc4) (hm : LenQ (Q6.whole b2 x2)) {F : FuncId} {fop : Nat → Nat → Nat} {fb : Bool → Bool → Bool} (hF : Fun2 F fop) (hB : BOp fop fb) (hw : want2 (Q6.whole b1 x1) (Q6.whole b2 x2) = 0) (hx1 : (words x1).length ≤ 512) (hb1 : b1.toNat ≤ x1) (hx2 : (words x2).length ≤ 512) (hb2 : b2.toNat ≤ x2) : Calls Try.prog 22 #[.func (.func F) #[] #[], numV (Q6.whole b1 x1) a1 ac1 a2 ac2 a3 ac3 a4 ac4, numV (Q6.whole b2 x2) u1 uc1 u2 uc2 u3 uc3 u4 uc4] w (AnsN w (bitQ fop fb (Q6.whole b1 x1) (Q6.whole b2 x2))) := by
  have hS : St w w [] [(u4, [1]), (u3, []), (u2, [1]), (u1, words x2), (a4, [1]), (a3, []), (a2, [1]), (a1, words x1)] [] := ((((((((St.start w).addR ha.s1.rd).addR ha.s2.rd).addR ha.s3.rd).addR ha.s4.rd).addR hu.s1.rd).addR hu.s2.rd).addR hu.s3.rd).addR hu.s4.rd
  refine walk_of (l := [(0, .func (.func F) #[] #[]), (1, .agg #[.bool b1, .slice a1 ((words x1).length) ac1, .slice a2 1 ac2, .bool false, .slice a3 0 ac3, .slice a4 1 ac4]), (2, .agg #[.bool b2, .slice u1 ((words x2).length) uc1, .slice u2 1 uc2, .bool false, .slice u3 0 uc3, .slice u4 1 uc4])]) Try.func22 rfl Try.ntmps22 rfl rfl ?_
  intro Q hret hnorm hP a hA
  refine wp_seq_k (fun K1 hK1 => ?_)
  refine wp_region_lit ?_
  refine seq_new (vs := [.bool b1, .slice a1 ((words x1).length) ac1, .slice a2 1 ac2, .bool false, .slice a3 0 ac3, .slice a4 1 ac4]) (t := 26) hA hS rfl rfl rfl (fun g => .pointer (some ⟨g, 0, none⟩)) (does_box rfl rfl) rfl ?_
  intro g2 w3 hS a hA
  refine seq_new (vs := [.bool b2, .slice u1 ((words x2).length) uc1, .slice u2 1 uc2, .bool false, .slice u3 0 uc3, .slice u4 1 uc4]) (t := 26) hA hS rfl rfl rfl (fun g => .pointer (some ⟨g, 0, none⟩)) (does_box rfl rfl) rfl ?_
  intro g4 w5 hS a hA
  refine seq_new (vs := [.bool false, .slice none 0 0, .slice none 0 0, .bool false, .slice none 0 0, .slice none 0 0]) (t := 26) hA hS rfl rfl rfl (fun g => .pointer (some ⟨g, 0, none⟩)) (does_alloc (z := .agg #[.bool false, .slice none 0 0, .slice none 0 0, .bool false, .slice none 0 0, .slice none 0 0]) (by kernel_rfl) rfl) rfl ?_
  intro g6 w7 hS a hA
  refine seq_do hA rfl rfl rfl (does_assign rfl) ?_
  intro a hA
  refine seq_end ?_
  refine hK1 _ _ ?_
  refine wp_seq_k (fun K8 hK8 => ?_)
  refine wp_seq_k (fun K9 hK9 => ?_)
  refine wp_region_lit ?_
  refine seq_do (v := .agg #[.bool b1, .slice a1 ((words x1).length) ac1, .slice a2 1 ac2, .bool false, .slice a3 0 ac3, .slice a4 1 ac4]) hA rfl rfl rfl (does_loadS hS isS_26 rfl 2 rfl (cs := [.bool b1, .slice a1 ((words x1).length) ac1, .slice a2 1 ac2, .bool false, .slice a3 0 ac3, .slice a4 1 ac4]) rfl rfl) ?_
  intro a hA
  refine seq_do (v := .agg #[.bool b2, .slice u1 ((words x2).length) uc1, .slice u2 1 uc2, .bool false, .slice u3 0 uc3, .slice u4 1 uc4]) hA rfl rfl rfl (does_loadS hS isS_26 rfl 1 rfl (cs := [.bool b2, .slice u1 ((words x2).length) uc1, .slice u2 1 uc2, .bool false, .slice u3 0 uc3, .slice u4 1 uc4]) rfl rfl) ?_
  intro a hA
  refine seq_new (vs := [.bool b1, .slice a1 ((words x1).length) ac1, .slice a2 1 ac2, .bool false, .slice a3 0 ac3, .slice a4 1 ac4, .bool b2, .slice u1 ((words x2).length) uc1, .slice u2 1 uc2, .bool false, .slice u3 0 uc3, .slice u4 1 uc4]) (t := 26) hA hS rfl rfl rfl (fun g => .slice (some ⟨g, 0, none⟩) 2 2) (does_buildSlice rfl (by kernel_rfl)) rfl ?_
  intro g10 w11 hS a hA
  refine seq_call hA rfl rfl rfl (enters_func  rfl rfl (fun w => by kernel_rfl)) (want2_any (show Nm _ (Q6.whole b1 x1) a1 ac1 a2 ac2 a3 ac3 a4 ac4 from ⟨⟨(hS.rd 7 rfl), ha.s1.nil, ha.s1.cap⟩, ⟨(hS.rd 6 rfl), ha.s2.nil, ha.s2.cap⟩, ⟨(hS.rd 5 rfl), ha.s3.nil, ha.s3.cap⟩, ⟨(hS.rd 4 rfl), ha.s4.nil, ha.s4.cap⟩⟩) hl (show Nm _ (Q6.whole b2 x2) u1 uc1 u2 uc2 u3 uc3 u4 uc4 from ⟨⟨(hS.rd 3 rfl), hu.s1.nil, hu.s1.cap⟩, ⟨(hS.rd 2 rfl), hu.s2.nil, hu.s2.cap⟩, ⟨(hS.rd 1 rfl), hu.s3.nil, hu.s3.cap⟩, ⟨(hS.rd 0 rfl), hu.s4.nil, hu.s4.cap⟩⟩) hm (hS.blk 0 rfl) hw) ?_
  rintro _ w13 ⟨rfl, hb12⟩
  replace hS := hS.call hb12
  refine ⟨_, rfl, ?_⟩
  intro a hA
  refine seq_do hA rfl rfl rfl (does_assign rfl) ?_
  intro a hA
  refine seq_end ?_
  refine hK9 _ _ ?_
  refine wp_seq_k (fun K14 hK14 => ?_)
  refine wp_region_lit ?_
  refine seq_do hA rfl rfl rfl (does_move rfl) ?_
  intro a hA
  refine seq_do (v := .bool false) hA rfl rfl rfl (does_bin rfl rfl (fun w => by kernel_rfl)) ?_
  intro a hA
  refine seq_end ?_
  refine hK14 _ _ ?_
  refine wp_cond_false (hA.ev rfl) ?_
  refine wp_skip ?_
  refine hK8 _ _ ?_
  refine wp_seq_k (fun K15 hK15 => ?_)
  refine wp_draw (S := fun w1 => St w w1 [(g10, [.bool b1, .slice a1 ((words x1).length) ac1, .slice a2 1 ac2, .bool false, .slice a3 0 ac3, .slice a4 1 ac4, .bool b2, .slice u1 ((words x2).length) uc1, .slice u2 1 uc2, .bool false, .slice u3 0 uc3, .slice u4 1 uc4]), (g4, [.bool b2, .slice u1 ((words x2).length) uc1, .slice u2 1 uc2, .bool false, .slice u3 0 uc3, .slice u4 1 uc4]), (g2, [.bool b1, .slice a1 ((words x1).length) ac1, .slice a2 1 ac2, .bool false, .slice a3 0 ac3, .slice a4 1 ac4])] [(u4, [1]), (u3, []), (u2, [1]), (u1, words x2), (a4, [1]), (a3, []), (a2, [1]), (a1, words x1)] []) (by kernel_rfl) ?_
  replace hS := hS.drew
  refine any_take (v := .agg #[.bool b1, .slice a1 ((words x1).length) ac1, .slice a2 1 ac2, .bool false, .slice a3 0 ac3, .slice a4 1 ac4]) hA 0 rfl rfl rfl rfl (by kernel_rfl) (by kernel_rfl) (by kernel_rfl) (fun c a w h => hP c a _ _ w h) (hS.part (.cons_cons _ (.cons _ (.cons_cons _ (.cons_cons _ .slnil)))) ⟨⟨0, rfl⟩, ⟨⟨1, rfl⟩, ⟨⟨2, rfl⟩, ⟨⟨3, rfl⟩, ⟨⟨4, rfl⟩, ⟨⟨5, rfl⟩, ⟨⟨6, rfl⟩, ⟨⟨7, rfl⟩, trivial⟩⟩⟩⟩⟩⟩⟩⟩ .slnil) (fun w1 hS => does_loadS hS isS_26 rfl 2 rfl (cs := [.bool b1, .slice a1 ((words x1).length) ac1, .slice a2 1 ac2, .bool false, .slice a3 0 ac3, .slice a4 1 ac4]) rfl rfl) ?_
  intro a hA
  refine any_take hA 2 rfl rfl rfl rfl (by kernel_rfl) (by kernel_rfl) (by kernel_rfl) (fun c a w h => hP c a _ _ w h) (hS.part (.cons_cons _ (.cons _ (.cons_cons _ (.cons_cons _ .slnil)))) ⟨⟨0, rfl⟩, ⟨⟨1, rfl⟩, ⟨⟨2, rfl⟩, ⟨⟨3, rfl⟩, ⟨⟨4, rfl⟩, ⟨⟨5, rfl⟩, ⟨⟨6, rfl⟩, ⟨⟨7, rfl⟩, trivial⟩⟩⟩⟩⟩⟩⟩⟩ .slnil) (fun w1 hS => does_move rfl) ?_
  intro a hA
  refine any_take (v := .agg #[.bool b2, .slice u1 ((words x2).length) uc1, .slice u2 1 uc2, .bool false, .slice u3 0 uc3, .slice u4 1 uc4]) hA 3 rfl rfl rfl rfl (by kernel_rfl) (by kernel_rfl) (by kernel_rfl) (fun c a w h => hP c a _ _ w h) (hS.part (.cons_cons _ (.cons _ (.cons_cons _ (.cons_cons _ .slnil)))) ⟨⟨0, rfl⟩, ⟨⟨1, rfl⟩, ⟨⟨2, rfl⟩, ⟨⟨3, rfl⟩, ⟨⟨4, rfl⟩, ⟨⟨5, rfl⟩, ⟨⟨6, rfl⟩, ⟨⟨7, rfl⟩, trivial⟩⟩⟩⟩⟩⟩⟩⟩ .slnil) (fun w1 hS => does_loadS hS isS_26 rfl 1 rfl (cs := [.bool b2, .slice u1 ((words x2).length) uc1, .slice u2 1 uc2, .bool false, .slice u3 0 uc3, .slice u4 1 uc4]) rfl rfl) ?_
  intro a hA
  refine any_one (by kernel_rfl) (op_call hA 1 rfl rfl rfl rfl (enters_func  rfl rfl (fun w => by kernel_rfl)) (rowOf_any (show Nm _ (Q6.whole b1 x1) a1 ac1 a2 ac2 a3 ac3 a4 ac4 from ⟨⟨(hS.rd 7 rfl), ha.s1.nil, ha.s1.cap⟩, ⟨(hS.rd 6 rfl), ha.s2.nil, ha.s2.cap⟩, ⟨(hS.rd 5 rfl), ha.s3.nil, ha.s3.cap⟩, ⟨(hS.rd 4 rfl), ha.s4.nil, ha.s4.cap⟩⟩) hx1 hb1) ?_)
  rintro _ w20 ⟨ro16, rc17, rfl, hs18, hb19⟩
  replace hS := hS.call hb19
  replace hS := hS.addR hs18.rd
  refine ⟨_, rfl, (hS.part (.cons_cons _ (.cons _ (.cons_cons _ (.cons_cons _ .slnil)))) ⟨⟨1, rfl⟩, ⟨⟨2, rfl⟩, ⟨⟨3, rfl⟩, ⟨⟨4, rfl⟩, ⟨⟨5, rfl⟩, ⟨⟨6, rfl⟩, ⟨⟨7, rfl⟩, ⟨⟨8, rfl⟩, trivial⟩⟩⟩⟩⟩⟩⟩⟩ .slnil), ?_⟩
  intro a hA
  refine any_one (by kernel_rfl) (op_call hA 4 rfl rfl rfl rfl (enters_func  rfl rfl (fun w => by kernel_rfl)) (rowOf_any (show Nm _ (Q6.whole b2 x2) u1 uc1 u2 uc2 u3 uc3 u4 uc4 from ⟨⟨(hS.rd 4 rfl), hu.s1.nil, hu.s1.cap⟩, ⟨(hS.rd 3 rfl), hu.s2.nil, hu.s2.cap⟩, ⟨(hS.rd 2 rfl), hu.s3.nil, hu.s3.cap⟩, ⟨(hS.rd 1 rfl), hu.s4.nil, hu.s4.cap⟩⟩) hx2 hb2) ?_)
  rintro _ w25 ⟨ro21, rc22, rfl, hs23, hb24⟩
  replace hS := hS.call hb24
  replace hS := hS.addR hs23.rd
  refine ⟨_, rfl, (hS.part (.cons_cons _ (.cons _ (.cons_cons _ (.cons_cons _ .slnil)))) ⟨⟨2, rfl⟩, ⟨⟨3, rfl⟩, ⟨⟨4, rfl⟩, ⟨⟨5, rfl⟩, ⟨⟨6, rfl⟩, ⟨⟨7, rfl⟩, ⟨⟨8, rfl⟩, ⟨⟨9, rfl⟩, trivial⟩⟩⟩⟩⟩⟩⟩⟩ .slnil), ?_⟩
  intro a hA
  refine any_one (by kernel_rfl) (op_call hA 5 rfl rfl rfl rfl (enters_func  rfl rfl (fun w => by kernel_rfl)) (combined_any hF hB (hS.rd 1 rfl) (hS.rd 0 rfl) (Nat.le_trans (sub_len hx1) (by decide)) (Nat.le_trans (sub_len hx2) (by decide))) ?_)
  rintro _ w30 ⟨ro26, rc27, rfl, hs28, hb29⟩
  replace hS := hS.call hb29
  replace hS := hS.addR hs28.rd
  refine ⟨_, rfl, (hS.part (.cons_cons _ (.cons _ (.cons_cons _ (.cons_cons _ .slnil)))) ⟨⟨3, rfl⟩, ⟨⟨4, rfl⟩, ⟨⟨5, rfl⟩, ⟨⟨6, rfl⟩, ⟨⟨7, rfl⟩, ⟨⟨8, rfl⟩, ⟨⟨9, rfl⟩, ⟨⟨10, rfl⟩, trivial⟩⟩⟩⟩⟩⟩⟩⟩ .slnil), ?_⟩
  intro a hA
  refine any_one (by kernel_rfl) (op_call hA 6 rfl rfl rfl rfl (enters_func  rfl rfl (fun w => by kernel_rfl)) (number_any (b := (fb b1 b2)) ⟨(hS.rd 0 rfl), hs28.nil, hs28.cap⟩ (putY_len hB (sub_len hx1) (sub_len hx2))) ?_)
  rintro _ w34 ⟨p31_1, p31_c1, p31_2, p31_c2, p31_3, p31_c3, p31_4, p31_c4, rfl, hn32, hb33⟩
  replace hS := hS.call hb33
  replace hS := hS.addR hn32.s1.rd
  replace hS := hS.addR hn32.s2.rd
  replace hS := hS.addR hn32.s3.rd
  replace hS := hS.addR hn32.s4.rd
  refine ⟨_, rfl, (hS.part (.cons_cons _ (.cons _ (.cons_cons _ (.cons_cons _ .slnil)))) ⟨⟨7, rfl⟩, ⟨⟨8, rfl⟩, ⟨⟨9, rfl⟩, ⟨⟨10, rfl⟩, ⟨⟨11, rfl⟩, ⟨⟨12, rfl⟩, ⟨⟨13, rfl⟩, ⟨⟨14, rfl⟩, trivial⟩⟩⟩⟩⟩⟩⟩⟩ .slnil), ?_⟩
  intro a hA
  refine any_take (v := .agg #[.bool ((bigS ((fb b1 b2)) (putY fop fb b1 (x1 - b1.toNat) b2 (x2 - b2.toNat) + ((fb b1 b2)).toNat)).1.b1), .slice p31_1 (((bigS ((fb b1 b2)) (putY fop fb b1 (x1 - b1.toNat) b2 (x2 - b2.toNat) + ((fb b1 b2)).toNat)).1.t1).length) p31_c1, .slice p31_2 (((bigS ((fb b1 b2)) (putY fop fb b1 (x1 - b1.toNat) b2 (x2 - b2.toNat) + ((fb b1 b2)).toNat)).1.q1).length) p31_c2, .bool ((bigS ((fb b1 b2)) (putY fop fb b1 (x1 - b1.toNat) b2 (x2 - b2.toNat) + ((fb b1 b2)).toNat)).1.b2), .slice p31_3 (((bigS ((fb b1 b2)) (putY fop fb b1 (x1 - b1.toNat) b2 (x2 - b2.toNat) + ((fb b1 b2)).toNat)).1.t2).length) p31_c3, .slice p31_4 (((bigS ((fb b1 b2)) (putY fop fb b1 (x1 - b1.toNat) b2 (x2 - b2.toNat) + ((fb b1 b2)).toNat)).1.q2).length) p31_c4]) hA 7 rfl rfl rfl rfl (by kernel_rfl) (by kernel_rfl) (by kernel_rfl) (fun c a w h => hP c a _ _ w h) (hS.part (.cons_cons _ (.cons _ (.cons_cons _ (.cons_cons _ .slnil)))) ⟨⟨7, rfl⟩, ⟨⟨8, rfl⟩, ⟨⟨9, rfl⟩, ⟨⟨10, rfl⟩, ⟨⟨11, rfl⟩, ⟨⟨12, rfl⟩, ⟨⟨13, rfl⟩, ⟨⟨14, rfl⟩, trivial⟩⟩⟩⟩⟩⟩⟩⟩ .slnil) (fun w1 hS => does_extract (vs := [.agg #[.bool ((bigS ((fb b1 b2)) (putY fop fb b1 (x1 - b1.toNat) b2 (x2 - b2.toNat) + ((fb b1 b2)).toNat)).1.b1), .slice p31_1 (((bigS ((fb b1 b2)) (putY fop fb b1 (x1 - b1.toNat) b2 (x2 - b2.toNat) + ((fb b1 b2)).toNat)).1.t1).length) p31_c1, .slice p31_2 (((bigS ((fb b1 b2)) (putY fop fb b1 (x1 - b1.toNat) b2 (x2 - b2.toNat) + ((fb b1 b2)).toNat)).1.q1).length) p31_c2, .bool ((bigS ((fb b1 b2)) (putY fop fb b1 (x1 - b1.toNat) b2 (x2 - b2.toNat) + ((fb b1 b2)).toNat)).1.b2), .slice p31_3 (((bigS ((fb b1 b2)) (putY fop fb b1 (x1 - b1.toNat) b2 (x2 - b2.toNat) + ((fb b1 b2)).toNat)).1.t2).length) p31_c3, .slice p31_4 (((bigS ((fb b1 b2)) (putY fop fb b1 (x1 - b1.toNat) b2 (x2 - b2.toNat) + ((fb b1 b2)).toNat)).1.q2).length) p31_c4], .int .i64 ((bigS ((fb b1 b2)) (putY fop fb b1 (x1 - b1.toNat) b2 (x2 - b2.toNat) + ((fb b1 b2)).toNat)).2)]) rfl rfl) ?_
  intro a hA
  refine any_take (v := .int .i64 ((bigS ((fb b1 b2)) (putY fop fb b1 (x1 - b1.toNat) b2 (x2 - b2.toNat) + ((fb b1 b2)).toNat)).2)) hA 8 rfl rfl rfl rfl (by kernel_rfl) (by kernel_rfl) (by kernel_rfl) (fun c a w h => hP c a _ _ w h) (hS.part (.cons_cons _ (.cons _ (.cons_cons _ (.cons_cons _ .slnil)))) ⟨⟨7, rfl⟩, ⟨⟨8, rfl⟩, ⟨⟨9, rfl⟩, ⟨⟨10, rfl⟩, ⟨⟨11, rfl⟩, ⟨⟨12, rfl⟩, ⟨⟨13, rfl⟩, ⟨⟨14, rfl⟩, trivial⟩⟩⟩⟩⟩⟩⟩⟩ .slnil) (fun w1 hS => does_extract (vs := [.agg #[.bool ((bigS ((fb b1 b2)) (putY fop fb b1 (x1 - b1.toNat) b2 (x2 - b2.toNat) + ((fb b1 b2)).toNat)).1.b1), .slice p31_1 (((bigS ((fb b1 b2)) (putY fop fb b1 (x1 - b1.toNat) b2 (x2 - b2.toNat) + ((fb b1 b2)).toNat)).1.t1).length) p31_c1, .slice p31_2 (((bigS ((fb b1 b2)) (putY fop fb b1 (x1 - b1.toNat) b2 (x2 - b2.toNat) + ((fb b1 b2)).toNat)).1.q1).length) p31_c2, .bool ((bigS ((fb b1 b2)) (putY fop fb b1 (x1 - b1.toNat) b2 (x2 - b2.toNat) + ((fb b1 b2)).toNat)).1.b2), .slice p31_3 (((bigS ((fb b1 b2)) (putY fop fb b1 (x1 - b1.toNat) b2 (x2 - b2.toNat) + ((fb b1 b2)).toNat)).1.t2).length) p31_c3, .slice p31_4 (((bigS ((fb b1 b2)) (putY fop fb b1 (x1 - b1.toNat) b2 (x2 - b2.toNat) + ((fb b1 b2)).toNat)).1.q2).length) p31_c4], .int .i64 ((bigS ((fb b1 b2)) (putY fop fb b1 (x1 - b1.toNat) b2 (x2 - b2.toNat) + ((fb b1 b2)).toNat)).2)]) rfl rfl) ?_
  intro a hA
  refine any_one (by kernel_rfl) (op_store (us := [.bool ((bigS ((fb b1 b2)) (putY fop fb b1 (x1 - b1.toNat) b2 (x2 - b2.toNat) + ((fb b1 b2)).toNat)).1.b1), .slice p31_1 (((bigS ((fb b1 b2)) (putY fop fb b1 (x1 - b1.toNat) b2 (x2 - b2.toNat) + ((fb b1 b2)).toNat)).1.t1).length) p31_c1, .slice p31_2 (((bigS ((fb b1 b2)) (putY fop fb b1 (x1 - b1.toNat) b2 (x2 - b2.toNat) + ((fb b1 b2)).toNat)).1.q1).length) p31_c2, .bool ((bigS ((fb b1 b2)) (putY fop fb b1 (x1 - b1.toNat) b2 (x2 - b2.toNat) + ((fb b1 b2)).toNat)).1.b2), .slice p31_3 (((bigS ((fb b1 b2)) (putY fop fb b1 (x1 - b1.toNat) b2 (x2 - b2.toNat) + ((fb b1 b2)).toNat)).1.t2).length) p31_c3, .slice p31_4 (((bigS ((fb b1 b2)) (putY fop fb b1 (x1 - b1.toNat) b2 (x2 - b2.toNat) + ((fb b1 b2)).toNat)).1.q2).length) p31_c4]) hA hS 9 rfl rfl rfl (sets_store (cs := [.bool ((bigS ((fb b1 b2)) (putY fop fb b1 (x1 - b1.toNat) b2 (x2 - b2.toNat) + ((fb b1 b2)).toNat)).1.b1), .slice p31_1 (((bigS ((fb b1 b2)) (putY fop fb b1 (x1 - b1.toNat) b2 (x2 - b2.toNat) + ((fb b1 b2)).toNat)).1.t1).length) p31_c1, .slice p31_2 (((bigS ((fb b1 b2)) (putY fop fb b1 (x1 - b1.toNat) b2 (x2 - b2.toNat) + ((fb b1 b2)).toNat)).1.q1).length) p31_c2, .bool ((bigS ((fb b1 b2)) (putY fop fb b1 (x1 - b1.toNat) b2 (x2 - b2.toNat) + ((fb b1 b2)).toNat)).1.b2), .slice p31_3 (((bigS ((fb b1 b2)) (putY fop fb b1 (x1 - b1.toNat) b2 (x2 - b2.toNat) + ((fb b1 b2)).toNat)).1.t2).length) p31_c3, .slice p31_4 (((bigS ((fb b1 b2)) (putY fop fb b1 (x1 - b1.toNat) b2 (x2 - b2.toNat) + ((fb b1 b2)).toNat)).1.q2).length) p31_c4]) rfl rfl rfl (by kernel_rfl) hS 1 rfl rfl rfl) 1 rfl rfl rfl rfl ?_)
  intro w35 hS
  refine ⟨(hS.part (.cons_cons _ (.cons _ (.cons_cons _ (.cons_cons _ .slnil)))) ⟨⟨7, rfl⟩, ⟨⟨8, rfl⟩, ⟨⟨9, rfl⟩, ⟨⟨10, rfl⟩, ⟨⟨11, rfl⟩, ⟨⟨12, rfl⟩, ⟨⟨13, rfl⟩, ⟨⟨14, rfl⟩, trivial⟩⟩⟩⟩⟩⟩⟩⟩ .slnil), ?_⟩
  refine any_take hA 10 rfl rfl rfl rfl (by kernel_rfl) (by kernel_rfl) (by kernel_rfl) (fun c a w h => hP c a _ _ w h) (hS.part (.cons_cons _ (.cons _ (.cons_cons _ (.cons_cons _ .slnil)))) ⟨⟨7, rfl⟩, ⟨⟨8, rfl⟩, ⟨⟨9, rfl⟩, ⟨⟨10, rfl⟩, ⟨⟨11, rfl⟩, ⟨⟨12, rfl⟩, ⟨⟨13, rfl⟩, ⟨⟨14, rfl⟩, trivial⟩⟩⟩⟩⟩⟩⟩⟩ .slnil) (fun w1 hS => does_assign rfl) ?_
  intro a hA
  refine any_end (by kernel_rfl) ?_
  refine hK15 _ _ ?_
  refine wp_ret ?_
  refine hret _ _ ?_
  refine ends (v := .tuple #[.agg #[.bool ((bigS ((fb b1 b2)) (putY fop fb b1 (x1 - b1.toNat) b2 (x2 - b2.toNat) + ((fb b1 b2)).toNat)).1.b1), .slice p31_1 (((bigS ((fb b1 b2)) (putY fop fb b1 (x1 - b1.toNat) b2 (x2 - b2.toNat) + ((fb b1 b2)).toNat)).1.t1).length) p31_c1, .slice p31_2 (((bigS ((fb b1 b2)) (putY fop fb b1 (x1 - b1.toNat) b2 (x2 - b2.toNat) + ((fb b1 b2)).toNat)).1.q1).length) p31_c2, .bool ((bigS ((fb b1 b2)) (putY fop fb b1 (x1 - b1.toNat) b2 (x2 - b2.toNat) + ((fb b1 b2)).toNat)).1.b2), .slice p31_3 (((bigS ((fb b1 b2)) (putY fop fb b1 (x1 - b1.toNat) b2 (x2 - b2.toNat) + ((fb b1 b2)).toNat)).1.t2).length) p31_c3, .slice p31_4 (((bigS ((fb b1 b2)) (putY fop fb b1 (x1 - b1.toNat) b2 (x2 - b2.toNat) + ((fb b1 b2)).toNat)).1.q2).length) p31_c4], .int .i64 ((bigS ((fb b1 b2)) (putY fop fb b1 (x1 - b1.toNat) b2 (x2 - b2.toNat) + ((fb b1 b2)).toNat)).2)]) hA rfl (.cons (res_cell hS isS_26 rfl 1 rfl (cs := [.bool ((bigS ((fb b1 b2)) (putY fop fb b1 (x1 - b1.toNat) b2 (x2 - b2.toNat) + ((fb b1 b2)).toNat)).1.b1), .slice p31_1 (((bigS ((fb b1 b2)) (putY fop fb b1 (x1 - b1.toNat) b2 (x2 - b2.toNat) + ((fb b1 b2)).toNat)).1.t1).length) p31_c1, .slice p31_2 (((bigS ((fb b1 b2)) (putY fop fb b1 (x1 - b1.toNat) b2 (x2 - b2.toNat) + ((fb b1 b2)).toNat)).1.q1).length) p31_c2, .bool ((bigS ((fb b1 b2)) (putY fop fb b1 (x1 - b1.toNat) b2 (x2 - b2.toNat) + ((fb b1 b2)).toNat)).1.b2), .slice p31_3 (((bigS ((fb b1 b2)) (putY fop fb b1 (x1 - b1.toNat) b2 (x2 - b2.toNat) + ((fb b1 b2)).toNat)).1.t2).length) p31_c3, .slice p31_4 (((bigS ((fb b1 b2)) (putY fop fb b1 (x1 - b1.toNat) b2 (x2 - b2.toNat) + ((fb b1 b2)).toNat)).1.q2).length) p31_c4]) rfl rfl) (.cons (res_tmp rfl) .nil)) rfl ?_
  rw [bitQ_whole hw]
  exact ⟨p31_1, p31_c1, p31_2, p31_c2, p31_3, p31_c3, p31_4, p31_c4, rfl, ⟨⟨(hS.rd 3 rfl), hn32.s1.nil, hn32.s1.cap⟩, ⟨(hS.rd 2 rfl), hn32.s2.nil, hn32.s2.cap⟩, ⟨(hS.rd 1 rfl), hn32.s3.nil, hn32.s3.cap⟩, ⟨(hS.rd 0 rfl), hn32.s4.nil, hn32.s4.cap⟩⟩, hS.bel⟩
/-- A number is told by its parts: whole, or refused. -/
theorem wholeOf {q : Q6} {w : World} {a1 a2 a3 a4 : Option Addr} {ac1 ac2 ac3 ac4 : Nat} (ha : Nm w q a1 ac1 a2 ac2 a3 ac3 a4 ac4) (h : wholeQ q = true) : ∃ b x, q = Q6.whole b x ∧ (words x).length ≤ 512 ∧ b.toNat ≤ x := by
  obtain ⟨x, h1, h2, h3⟩ := whole_form ha.s1.rd.dig ha.s4.rd.dig h
  exact ⟨q.b1, x, h1, h2, h3⟩
theorem bitN_any {w : World} {p q : Q6} {a1 a2 a3 a4 : Option Addr} {ac1 ac2 ac3 ac4 : Nat} (ha : Nm w p a1 ac1 a2 ac2 a3 ac3 a4 ac4) (hl : LenQ p) {u1 u2 u3 u4 : Option Addr} {uc1 uc2 uc3 uc4 : Nat} (hu : Nm w q u1 uc1 u2 uc2 u3 uc3 u4 uc4) (hm : LenQ q) {F : FuncId} {fop : Nat → Nat → Nat} {fb : Bool → Bool → Bool} (hF : Fun2 F fop) (hB : BOp fop fb) : Calls Try.prog 22 #[.func (.func F) #[] #[], numV p a1 ac1 a2 ac2 a3 ac3 a4 ac4, numV q u1 uc1 u2 uc2 u3 uc3 u4 uc4] w (AnsN w (bitQ fop fb p q)) := by
  rcases want2_cases p q with ⟨hw, h1, h2⟩ | hw
  · obtain ⟨b1, x1, rfl, hx1, hb1⟩ := wholeOf ha h1
    obtain ⟨b2, x2, rfl, hx2, hb2⟩ := wholeOf hu h2
    exact bitW_any ha hl hu hm hF hB hw hx1 hb1 hx2 hb2
  · exact bitE_any ha hl hu hm hF hB hw
theorem andQ_any {w : World} {p q : Q6} {a1 a2 a3 a4 : Option Addr} {ac1 ac2 ac3 ac4 : Nat} (ha : Nm w p a1 ac1 a2 ac2 a3 ac3 a4 ac4) (hl : LenQ p) {u1 u2 u3 u4 : Option Addr} {uc1 uc2 uc3 uc4 : Nat} (hu : Nm w q u1 uc1 u2 uc2 u3 uc3 u4 uc4) (hm : LenQ q) : Calls Try.prog 6 #[numV p a1 ac1 a2 ac2 a3 ac3 a4 ac4, numV q u1 uc1 u2 uc2 u3 uc3 u4 uc4] w (AnsN w (bitQ (fun x y => x &&& y) (fun b c => b && c) p q)) := by
  have hS : St w w [] [(u4, q.q2), (u3, q.t2), (u2, q.q1), (u1, q.t1), (a4, p.q2), (a3, p.t2), (a2, p.q1), (a1, p.t1)] [] := ((((((((St.start w).addR ha.s1.rd).addR ha.s2.rd).addR ha.s3.rd).addR ha.s4.rd).addR hu.s1.rd).addR hu.s2.rd).addR hu.s3.rd).addR hu.s4.rd
  refine walk_of (l := [(0, .agg #[.bool p.b1, .slice a1 p.t1.length ac1, .slice a2 p.q1.length ac2, .bool p.b2, .slice a3 p.t2.length ac3, .slice a4 p.q2.length ac4]), (1, .agg #[.bool q.b1, .slice u1 q.t1.length uc1, .slice u2 q.q1.length uc2, .bool q.b2, .slice u3 q.t2.length uc3, .slice u4 q.q2.length uc4])]) Try.func6 rfl Try.ntmps6 rfl rfl ?_
  intro Q hret hnorm hP a hA
  refine wp_seq_k (fun K1 hK1 => ?_)
  refine wp_region_lit ?_
  refine seq_new (vs := [.bool p.b1, .slice a1 p.t1.length ac1, .slice a2 p.q1.length ac2, .bool p.b2, .slice a3 p.t2.length ac3, .slice a4 p.q2.length ac4]) (t := 26) hA hS rfl rfl rfl (fun g => .pointer (some ⟨g, 0, none⟩)) (does_box rfl rfl) rfl ?_
  intro g2 w3 hS a hA
  refine seq_new (vs := [.bool q.b1, .slice u1 q.t1.length uc1, .slice u2 q.q1.length uc2, .bool q.b2, .slice u3 q.t2.length uc3, .slice u4 q.q2.length uc4]) (t := 26) hA hS rfl rfl rfl (fun g => .pointer (some ⟨g, 0, none⟩)) (does_box rfl rfl) rfl ?_
  intro g4 w5 hS a hA
  refine seq_new (vs := [.bool false, .slice none 0 0, .slice none 0 0, .bool false, .slice none 0 0, .slice none 0 0]) (t := 26) hA hS rfl rfl rfl (fun g => .pointer (some ⟨g, 0, none⟩)) (does_alloc (z := .agg #[.bool false, .slice none 0 0, .slice none 0 0, .bool false, .slice none 0 0, .slice none 0 0]) (by kernel_rfl) rfl) rfl ?_
  intro g6 w7 hS a hA
  refine seq_do hA rfl rfl rfl (does_assign rfl) ?_
  intro a hA
  refine seq_end ?_
  refine hK1 _ _ ?_
  refine wp_seq_k (fun K8 hK8 => ?_)
  refine wp_region_lit ?_
  refine seq_do (v := .agg #[.bool p.b1, .slice a1 p.t1.length ac1, .slice a2 p.q1.length ac2, .bool p.b2, .slice a3 p.t2.length ac3, .slice a4 p.q2.length ac4]) hA rfl rfl rfl (does_loadS hS isS_26 rfl 2 rfl (cs := [.bool p.b1, .slice a1 p.t1.length ac1, .slice a2 p.q1.length ac2, .bool p.b2, .slice a3 p.t2.length ac3, .slice a4 p.q2.length ac4]) rfl rfl) ?_
  intro a hA
  refine seq_do (v := .agg #[.bool q.b1, .slice u1 q.t1.length uc1, .slice u2 q.q1.length uc2, .bool q.b2, .slice u3 q.t2.length uc3, .slice u4 q.q2.length uc4]) hA rfl rfl rfl (does_loadS hS isS_26 rfl 1 rfl (cs := [.bool q.b1, .slice u1 q.t1.length uc1, .slice u2 q.q1.length uc2, .bool q.b2, .slice u3 q.t2.length uc3, .slice u4 q.q2.length uc4]) rfl rfl) ?_
  intro a hA
  refine seq_call hA rfl rfl rfl (enters_func  rfl rfl (fun w => by kernel_rfl)) (bitN_any (show Nm _ p a1 ac1 a2 ac2 a3 ac3 a4 ac4 from ⟨⟨(hS.rd 7 rfl), ha.s1.nil, ha.s1.cap⟩, ⟨(hS.rd 6 rfl), ha.s2.nil, ha.s2.cap⟩, ⟨(hS.rd 5 rfl), ha.s3.nil, ha.s3.cap⟩, ⟨(hS.rd 4 rfl), ha.s4.nil, ha.s4.cap⟩⟩) hl (show Nm _ q u1 uc1 u2 uc2 u3 uc3 u4 uc4 from ⟨⟨(hS.rd 3 rfl), hu.s1.nil, hu.s1.cap⟩, ⟨(hS.rd 2 rfl), hu.s2.nil, hu.s2.cap⟩, ⟨(hS.rd 1 rfl), hu.s3.nil, hu.s3.cap⟩, ⟨(hS.rd 0 rfl), hu.s4.nil, hu.s4.cap⟩⟩) hm andFun and_op) ?_
  rintro _ w12 ⟨p9_1, p9_c1, p9_2, p9_c2, p9_3, p9_c3, p9_4, p9_c4, rfl, hn10, hb11⟩
  replace hS := hS.call hb11
  replace hS := hS.addR hn10.s1.rd
  replace hS := hS.addR hn10.s2.rd
  replace hS := hS.addR hn10.s3.rd
  replace hS := hS.addR hn10.s4.rd
  refine ⟨_, rfl, ?_⟩
  intro a hA
  refine seq_do (v := .agg #[.bool ((bitQ (fun x y => x &&& y) (fun b c => b && c) p q).1.b1), .slice p9_1 (((bitQ (fun x y => x &&& y) (fun b c => b && c) p q).1.t1).length) p9_c1, .slice p9_2 (((bitQ (fun x y => x &&& y) (fun b c => b && c) p q).1.q1).length) p9_c2, .bool ((bitQ (fun x y => x &&& y) (fun b c => b && c) p q).1.b2), .slice p9_3 (((bitQ (fun x y => x &&& y) (fun b c => b && c) p q).1.t2).length) p9_c3, .slice p9_4 (((bitQ (fun x y => x &&& y) (fun b c => b && c) p q).1.q2).length) p9_c4]) hA rfl rfl rfl (does_extract (vs := [.agg #[.bool ((bitQ (fun x y => x &&& y) (fun b c => b && c) p q).1.b1), .slice p9_1 (((bitQ (fun x y => x &&& y) (fun b c => b && c) p q).1.t1).length) p9_c1, .slice p9_2 (((bitQ (fun x y => x &&& y) (fun b c => b && c) p q).1.q1).length) p9_c2, .bool ((bitQ (fun x y => x &&& y) (fun b c => b && c) p q).1.b2), .slice p9_3 (((bitQ (fun x y => x &&& y) (fun b c => b && c) p q).1.t2).length) p9_c3, .slice p9_4 (((bitQ (fun x y => x &&& y) (fun b c => b && c) p q).1.q2).length) p9_c4], .int .i64 ((bitQ (fun x y => x &&& y) (fun b c => b && c) p q).2)]) rfl rfl) ?_
  intro a hA
  refine seq_do (v := .int .i64 ((bitQ (fun x y => x &&& y) (fun b c => b && c) p q).2)) hA rfl rfl rfl (does_extract (vs := [.agg #[.bool ((bitQ (fun x y => x &&& y) (fun b c => b && c) p q).1.b1), .slice p9_1 (((bitQ (fun x y => x &&& y) (fun b c => b && c) p q).1.t1).length) p9_c1, .slice p9_2 (((bitQ (fun x y => x &&& y) (fun b c => b && c) p q).1.q1).length) p9_c2, .bool ((bitQ (fun x y => x &&& y) (fun b c => b && c) p q).1.b2), .slice p9_3 (((bitQ (fun x y => x &&& y) (fun b c => b && c) p q).1.t2).length) p9_c3, .slice p9_4 (((bitQ (fun x y => x &&& y) (fun b c => b && c) p q).1.q2).length) p9_c4], .int .i64 ((bitQ (fun x y => x &&& y) (fun b c => b && c) p q).2)]) rfl rfl) ?_
  intro a hA
  refine seq_store (us := [.bool ((bitQ (fun x y => x &&& y) (fun b c => b && c) p q).1.b1), .slice p9_1 (((bitQ (fun x y => x &&& y) (fun b c => b && c) p q).1.t1).length) p9_c1, .slice p9_2 (((bitQ (fun x y => x &&& y) (fun b c => b && c) p q).1.q1).length) p9_c2, .bool ((bitQ (fun x y => x &&& y) (fun b c => b && c) p q).1.b2), .slice p9_3 (((bitQ (fun x y => x &&& y) (fun b c => b && c) p q).1.t2).length) p9_c3, .slice p9_4 (((bitQ (fun x y => x &&& y) (fun b c => b && c) p q).1.q2).length) p9_c4]) hA hS rfl rfl (sets_store (cs := [.bool ((bitQ (fun x y => x &&& y) (fun b c => b && c) p q).1.b1), .slice p9_1 (((bitQ (fun x y => x &&& y) (fun b c => b && c) p q).1.t1).length) p9_c1, .slice p9_2 (((bitQ (fun x y => x &&& y) (fun b c => b && c) p q).1.q1).length) p9_c2, .bool ((bitQ (fun x y => x &&& y) (fun b c => b && c) p q).1.b2), .slice p9_3 (((bitQ (fun x y => x &&& y) (fun b c => b && c) p q).1.t2).length) p9_c3, .slice p9_4 (((bitQ (fun x y => x &&& y) (fun b c => b && c) p q).1.q2).length) p9_c4]) rfl rfl rfl (by kernel_rfl) hS 0 rfl rfl rfl) 0 rfl rfl rfl rfl ?_
  intro w13 hS
  refine seq_do hA rfl rfl rfl (does_assign rfl) ?_
  intro a hA
  refine seq_end ?_
  refine hK8 _ _ ?_
  refine wp_ret ?_
  refine hret _ _ ?_
  refine ends (v := .tuple #[.agg #[.bool ((bitQ (fun x y => x &&& y) (fun b c => b && c) p q).1.b1), .slice p9_1 (((bitQ (fun x y => x &&& y) (fun b c => b && c) p q).1.t1).length) p9_c1, .slice p9_2 (((bitQ (fun x y => x &&& y) (fun b c => b && c) p q).1.q1).length) p9_c2, .bool ((bitQ (fun x y => x &&& y) (fun b c => b && c) p q).1.b2), .slice p9_3 (((bitQ (fun x y => x &&& y) (fun b c => b && c) p q).1.t2).length) p9_c3, .slice p9_4 (((bitQ (fun x y => x &&& y) (fun b c => b && c) p q).1.q2).length) p9_c4], .int .i64 ((bitQ (fun x y => x &&& y) (fun b c => b && c) p q).2)]) hA rfl (.cons (res_cell hS isS_26 rfl 0 rfl (cs := [.bool ((bitQ (fun x y => x &&& y) (fun b c => b && c) p q).1.b1), .slice p9_1 (((bitQ (fun x y => x &&& y) (fun b c => b && c) p q).1.t1).length) p9_c1, .slice p9_2 (((bitQ (fun x y => x &&& y) (fun b c => b && c) p q).1.q1).length) p9_c2, .bool ((bitQ (fun x y => x &&& y) (fun b c => b && c) p q).1.b2), .slice p9_3 (((bitQ (fun x y => x &&& y) (fun b c => b && c) p q).1.t2).length) p9_c3, .slice p9_4 (((bitQ (fun x y => x &&& y) (fun b c => b && c) p q).1.q2).length) p9_c4]) rfl rfl) (.cons (res_tmp rfl) .nil)) rfl ?_
  exact ⟨p9_1, p9_c1, p9_2, p9_c2, p9_3, p9_c3, p9_4, p9_c4, rfl, ⟨⟨(hS.rd 3 rfl), hn10.s1.nil, hn10.s1.cap⟩, ⟨(hS.rd 2 rfl), hn10.s2.nil, hn10.s2.cap⟩, ⟨(hS.rd 1 rfl), hn10.s3.nil, hn10.s3.cap⟩, ⟨(hS.rd 0 rfl), hn10.s4.nil, hn10.s4.cap⟩⟩, hS.bel⟩
theorem orQ_any {w : World} {p q : Q6} {a1 a2 a3 a4 : Option Addr} {ac1 ac2 ac3 ac4 : Nat} (ha : Nm w p a1 ac1 a2 ac2 a3 ac3 a4 ac4) (hl : LenQ p) {u1 u2 u3 u4 : Option Addr} {uc1 uc2 uc3 uc4 : Nat} (hu : Nm w q u1 uc1 u2 uc2 u3 uc3 u4 uc4) (hm : LenQ q) : Calls Try.prog 8 #[numV p a1 ac1 a2 ac2 a3 ac3 a4 ac4, numV q u1 uc1 u2 uc2 u3 uc3 u4 uc4] w (AnsN w (bitQ (fun x y => x ||| y) (fun b c => b || c) p q)) := by
  have hS : St w w [] [(u4, q.q2), (u3, q.t2), (u2, q.q1), (u1, q.t1), (a4, p.q2), (a3, p.t2), (a2, p.q1), (a1, p.t1)] [] := ((((((((St.start w).addR ha.s1.rd).addR ha.s2.rd).addR ha.s3.rd).addR ha.s4.rd).addR hu.s1.rd).addR hu.s2.rd).addR hu.s3.rd).addR hu.s4.rd
  refine walk_of (l := [(0, .agg #[.bool p.b1, .slice a1 p.t1.length ac1, .slice a2 p.q1.length ac2, .bool p.b2, .slice a3 p.t2.length ac3, .slice a4 p.q2.length ac4]), (1, .agg #[.bool q.b1, .slice u1 q.t1.length uc1, .slice u2 q.q1.length uc2, .bool q.b2, .slice u3 q.t2.length uc3, .slice u4 q.q2.length uc4])]) Try.func8 rfl Try.ntmps8 rfl rfl ?_
  intro Q hret hnorm hP a hA
  refine wp_seq_k (fun K1 hK1 => ?_)
  refine wp_region_lit ?_
  refine seq_new (vs := [.bool p.b1, .slice a1 p.t1.length ac1, .slice a2 p.q1.length ac2, .bool p.b2, .slice a3 p.t2.length ac3, .slice a4 p.q2.length ac4]) (t := 26) hA hS rfl rfl rfl (fun g => .pointer (some ⟨g, 0, none⟩)) (does_box rfl rfl) rfl ?_
  intro g2 w3 hS a hA
  refine seq_new (vs := [.bool q.b1, .slice u1 q.t1.length uc1, .slice u2 q.q1.length uc2, .bool q.b2, .slice u3 q.t2.length uc3, .slice u4 q.q2.length uc4]) (t := 26) hA hS rfl rfl rfl (fun g => .pointer (some ⟨g, 0, none⟩)) (does_box rfl rfl) rfl ?_
  intro g4 w5 hS a hA
  refine seq_new (vs := [.bool false, .slice none 0 0, .slice none 0 0, .bool false, .slice none 0 0, .slice none 0 0]) (t := 26) hA hS rfl rfl rfl (fun g => .pointer (some ⟨g, 0, none⟩)) (does_alloc (z := .agg #[.bool false, .slice none 0 0, .slice none 0 0, .bool false, .slice none 0 0, .slice none 0 0]) (by kernel_rfl) rfl) rfl ?_
  intro g6 w7 hS a hA
  refine seq_do hA rfl rfl rfl (does_assign rfl) ?_
  intro a hA
  refine seq_end ?_
  refine hK1 _ _ ?_
  refine wp_seq_k (fun K8 hK8 => ?_)
  refine wp_region_lit ?_
  refine seq_do (v := .agg #[.bool p.b1, .slice a1 p.t1.length ac1, .slice a2 p.q1.length ac2, .bool p.b2, .slice a3 p.t2.length ac3, .slice a4 p.q2.length ac4]) hA rfl rfl rfl (does_loadS hS isS_26 rfl 2 rfl (cs := [.bool p.b1, .slice a1 p.t1.length ac1, .slice a2 p.q1.length ac2, .bool p.b2, .slice a3 p.t2.length ac3, .slice a4 p.q2.length ac4]) rfl rfl) ?_
  intro a hA
  refine seq_do (v := .agg #[.bool q.b1, .slice u1 q.t1.length uc1, .slice u2 q.q1.length uc2, .bool q.b2, .slice u3 q.t2.length uc3, .slice u4 q.q2.length uc4]) hA rfl rfl rfl (does_loadS hS isS_26 rfl 1 rfl (cs := [.bool q.b1, .slice u1 q.t1.length uc1, .slice u2 q.q1.length uc2, .bool q.b2, .slice u3 q.t2.length uc3, .slice u4 q.q2.length uc4]) rfl rfl) ?_
  intro a hA
  refine seq_call hA rfl rfl rfl (enters_func  rfl rfl (fun w => by kernel_rfl)) (bitN_any (show Nm _ p a1 ac1 a2 ac2 a3 ac3 a4 ac4 from ⟨⟨(hS.rd 7 rfl), ha.s1.nil, ha.s1.cap⟩, ⟨(hS.rd 6 rfl), ha.s2.nil, ha.s2.cap⟩, ⟨(hS.rd 5 rfl), ha.s3.nil, ha.s3.cap⟩, ⟨(hS.rd 4 rfl), ha.s4.nil, ha.s4.cap⟩⟩) hl (show Nm _ q u1 uc1 u2 uc2 u3 uc3 u4 uc4 from ⟨⟨(hS.rd 3 rfl), hu.s1.nil, hu.s1.cap⟩, ⟨(hS.rd 2 rfl), hu.s2.nil, hu.s2.cap⟩, ⟨(hS.rd 1 rfl), hu.s3.nil, hu.s3.cap⟩, ⟨(hS.rd 0 rfl), hu.s4.nil, hu.s4.cap⟩⟩) hm orFun or_op) ?_
  rintro _ w12 ⟨p9_1, p9_c1, p9_2, p9_c2, p9_3, p9_c3, p9_4, p9_c4, rfl, hn10, hb11⟩
  replace hS := hS.call hb11
  replace hS := hS.addR hn10.s1.rd
  replace hS := hS.addR hn10.s2.rd
  replace hS := hS.addR hn10.s3.rd
  replace hS := hS.addR hn10.s4.rd
  refine ⟨_, rfl, ?_⟩
  intro a hA
  refine seq_do (v := .agg #[.bool ((bitQ (fun x y => x ||| y) (fun b c => b || c) p q).1.b1), .slice p9_1 (((bitQ (fun x y => x ||| y) (fun b c => b || c) p q).1.t1).length) p9_c1, .slice p9_2 (((bitQ (fun x y => x ||| y) (fun b c => b || c) p q).1.q1).length) p9_c2, .bool ((bitQ (fun x y => x ||| y) (fun b c => b || c) p q).1.b2), .slice p9_3 (((bitQ (fun x y => x ||| y) (fun b c => b || c) p q).1.t2).length) p9_c3, .slice p9_4 (((bitQ (fun x y => x ||| y) (fun b c => b || c) p q).1.q2).length) p9_c4]) hA rfl rfl rfl (does_extract (vs := [.agg #[.bool ((bitQ (fun x y => x ||| y) (fun b c => b || c) p q).1.b1), .slice p9_1 (((bitQ (fun x y => x ||| y) (fun b c => b || c) p q).1.t1).length) p9_c1, .slice p9_2 (((bitQ (fun x y => x ||| y) (fun b c => b || c) p q).1.q1).length) p9_c2, .bool ((bitQ (fun x y => x ||| y) (fun b c => b || c) p q).1.b2), .slice p9_3 (((bitQ (fun x y => x ||| y) (fun b c => b || c) p q).1.t2).length) p9_c3, .slice p9_4 (((bitQ (fun x y => x ||| y) (fun b c => b || c) p q).1.q2).length) p9_c4], .int .i64 ((bitQ (fun x y => x ||| y) (fun b c => b || c) p q).2)]) rfl rfl) ?_
  intro a hA
  refine seq_do (v := .int .i64 ((bitQ (fun x y => x ||| y) (fun b c => b || c) p q).2)) hA rfl rfl rfl (does_extract (vs := [.agg #[.bool ((bitQ (fun x y => x ||| y) (fun b c => b || c) p q).1.b1), .slice p9_1 (((bitQ (fun x y => x ||| y) (fun b c => b || c) p q).1.t1).length) p9_c1, .slice p9_2 (((bitQ (fun x y => x ||| y) (fun b c => b || c) p q).1.q1).length) p9_c2, .bool ((bitQ (fun x y => x ||| y) (fun b c => b || c) p q).1.b2), .slice p9_3 (((bitQ (fun x y => x ||| y) (fun b c => b || c) p q).1.t2).length) p9_c3, .slice p9_4 (((bitQ (fun x y => x ||| y) (fun b c => b || c) p q).1.q2).length) p9_c4], .int .i64 ((bitQ (fun x y => x ||| y) (fun b c => b || c) p q).2)]) rfl rfl) ?_
  intro a hA
  refine seq_store (us := [.bool ((bitQ (fun x y => x ||| y) (fun b c => b || c) p q).1.b1), .slice p9_1 (((bitQ (fun x y => x ||| y) (fun b c => b || c) p q).1.t1).length) p9_c1, .slice p9_2 (((bitQ (fun x y => x ||| y) (fun b c => b || c) p q).1.q1).length) p9_c2, .bool ((bitQ (fun x y => x ||| y) (fun b c => b || c) p q).1.b2), .slice p9_3 (((bitQ (fun x y => x ||| y) (fun b c => b || c) p q).1.t2).length) p9_c3, .slice p9_4 (((bitQ (fun x y => x ||| y) (fun b c => b || c) p q).1.q2).length) p9_c4]) hA hS rfl rfl (sets_store (cs := [.bool ((bitQ (fun x y => x ||| y) (fun b c => b || c) p q).1.b1), .slice p9_1 (((bitQ (fun x y => x ||| y) (fun b c => b || c) p q).1.t1).length) p9_c1, .slice p9_2 (((bitQ (fun x y => x ||| y) (fun b c => b || c) p q).1.q1).length) p9_c2, .bool ((bitQ (fun x y => x ||| y) (fun b c => b || c) p q).1.b2), .slice p9_3 (((bitQ (fun x y => x ||| y) (fun b c => b || c) p q).1.t2).length) p9_c3, .slice p9_4 (((bitQ (fun x y => x ||| y) (fun b c => b || c) p q).1.q2).length) p9_c4]) rfl rfl rfl (by kernel_rfl) hS 0 rfl rfl rfl) 0 rfl rfl rfl rfl ?_
  intro w13 hS
  refine seq_do hA rfl rfl rfl (does_assign rfl) ?_
  intro a hA
  refine seq_end ?_
  refine hK8 _ _ ?_
  refine wp_ret ?_
  refine hret _ _ ?_
  refine ends (v := .tuple #[.agg #[.bool ((bitQ (fun x y => x ||| y) (fun b c => b || c) p q).1.b1), .slice p9_1 (((bitQ (fun x y => x ||| y) (fun b c => b || c) p q).1.t1).length) p9_c1, .slice p9_2 (((bitQ (fun x y => x ||| y) (fun b c => b || c) p q).1.q1).length) p9_c2, .bool ((bitQ (fun x y => x ||| y) (fun b c => b || c) p q).1.b2), .slice p9_3 (((bitQ (fun x y => x ||| y) (fun b c => b || c) p q).1.t2).length) p9_c3, .slice p9_4 (((bitQ (fun x y => x ||| y) (fun b c => b || c) p q).1.q2).length) p9_c4], .int .i64 ((bitQ (fun x y => x ||| y) (fun b c => b || c) p q).2)]) hA rfl (.cons (res_cell hS isS_26 rfl 0 rfl (cs := [.bool ((bitQ (fun x y => x ||| y) (fun b c => b || c) p q).1.b1), .slice p9_1 (((bitQ (fun x y => x ||| y) (fun b c => b || c) p q).1.t1).length) p9_c1, .slice p9_2 (((bitQ (fun x y => x ||| y) (fun b c => b || c) p q).1.q1).length) p9_c2, .bool ((bitQ (fun x y => x ||| y) (fun b c => b || c) p q).1.b2), .slice p9_3 (((bitQ (fun x y => x ||| y) (fun b c => b || c) p q).1.t2).length) p9_c3, .slice p9_4 (((bitQ (fun x y => x ||| y) (fun b c => b || c) p q).1.q2).length) p9_c4]) rfl rfl) (.cons (res_tmp rfl) .nil)) rfl ?_
  exact ⟨p9_1, p9_c1, p9_2, p9_c2, p9_3, p9_c3, p9_4, p9_c4, rfl, ⟨⟨(hS.rd 3 rfl), hn10.s1.nil, hn10.s1.cap⟩, ⟨(hS.rd 2 rfl), hn10.s2.nil, hn10.s2.cap⟩, ⟨(hS.rd 1 rfl), hn10.s3.nil, hn10.s3.cap⟩, ⟨(hS.rd 0 rfl), hn10.s4.nil, hn10.s4.cap⟩⟩, hS.bel⟩
theorem xorQ_any {w : World} {p q : Q6} {a1 a2 a3 a4 : Option Addr} {ac1 ac2 ac3 ac4 : Nat} (ha : Nm w p a1 ac1 a2 ac2 a3 ac3 a4 ac4) (hl : LenQ p) {u1 u2 u3 u4 : Option Addr} {uc1 uc2 uc3 uc4 : Nat} (hu : Nm w q u1 uc1 u2 uc2 u3 uc3 u4 uc4) (hm : LenQ q) : Calls Try.prog 9 #[numV p a1 ac1 a2 ac2 a3 ac3 a4 ac4, numV q u1 uc1 u2 uc2 u3 uc3 u4 uc4] w (AnsN w (bitQ (fun x y => x ^^^ y) (fun b c => b != c) p q)) := by
  have hS : St w w [] [(u4, q.q2), (u3, q.t2), (u2, q.q1), (u1, q.t1), (a4, p.q2), (a3, p.t2), (a2, p.q1), (a1, p.t1)] [] := ((((((((St.start w).addR ha.s1.rd).addR ha.s2.rd).addR ha.s3.rd).addR ha.s4.rd).addR hu.s1.rd).addR hu.s2.rd).addR hu.s3.rd).addR hu.s4.rd
  refine walk_of (l := [(0, .agg #[.bool p.b1, .slice a1 p.t1.length ac1, .slice a2 p.q1.length ac2, .bool p.b2, .slice a3 p.t2.length ac3, .slice a4 p.q2.length ac4]), (1, .agg #[.bool q.b1, .slice u1 q.t1.length uc1, .slice u2 q.q1.length uc2, .bool q.b2, .slice u3 q.t2.length uc3, .slice u4 q.q2.length uc4])]) Try.func9 rfl Try.ntmps9 rfl rfl ?_
  intro Q hret hnorm hP a hA
  refine wp_seq_k (fun K1 hK1 => ?_)
  refine wp_region_lit ?_
  refine seq_new (vs := [.bool p.b1, .slice a1 p.t1.length ac1, .slice a2 p.q1.length ac2, .bool p.b2, .slice a3 p.t2.length ac3, .slice a4 p.q2.length ac4]) (t := 26) hA hS rfl rfl rfl (fun g => .pointer (some ⟨g, 0, none⟩)) (does_box rfl rfl) rfl ?_
  intro g2 w3 hS a hA
  refine seq_new (vs := [.bool q.b1, .slice u1 q.t1.length uc1, .slice u2 q.q1.length uc2, .bool q.b2, .slice u3 q.t2.length uc3, .slice u4 q.q2.length uc4]) (t := 26) hA hS rfl rfl rfl (fun g => .pointer (some ⟨g, 0, none⟩)) (does_box rfl rfl) rfl ?_
  intro g4 w5 hS a hA
  refine seq_new (vs := [.bool false, .slice none 0 0, .slice none 0 0, .bool false, .slice none 0 0, .slice none 0 0]) (t := 26) hA hS rfl rfl rfl (fun g => .pointer (some ⟨g, 0, none⟩)) (does_alloc (z := .agg #[.bool false, .slice none 0 0, .slice none 0 0, .bool false, .slice none 0 0, .slice none 0 0]) (by kernel_rfl) rfl) rfl ?_
  intro g6 w7 hS a hA
  refine seq_do hA rfl rfl rfl (does_assign rfl) ?_
  intro a hA
  refine seq_end ?_
  refine hK1 _ _ ?_
  refine wp_seq_k (fun K8 hK8 => ?_)
  refine wp_region_lit ?_
  refine seq_do (v := .agg #[.bool p.b1, .slice a1 p.t1.length ac1, .slice a2 p.q1.length ac2, .bool p.b2, .slice a3 p.t2.length ac3, .slice a4 p.q2.length ac4]) hA rfl rfl rfl (does_loadS hS isS_26 rfl 2 rfl (cs := [.bool p.b1, .slice a1 p.t1.length ac1, .slice a2 p.q1.length ac2, .bool p.b2, .slice a3 p.t2.length ac3, .slice a4 p.q2.length ac4]) rfl rfl) ?_
  intro a hA
  refine seq_do (v := .agg #[.bool q.b1, .slice u1 q.t1.length uc1, .slice u2 q.q1.length uc2, .bool q.b2, .slice u3 q.t2.length uc3, .slice u4 q.q2.length uc4]) hA rfl rfl rfl (does_loadS hS isS_26 rfl 1 rfl (cs := [.bool q.b1, .slice u1 q.t1.length uc1, .slice u2 q.q1.length uc2, .bool q.b2, .slice u3 q.t2.length uc3, .slice u4 q.q2.length uc4]) rfl rfl) ?_
  intro a hA
  refine seq_call hA rfl rfl rfl (enters_func  rfl rfl (fun w => by kernel_rfl)) (bitN_any (show Nm _ p a1 ac1 a2 ac2 a3 ac3 a4 ac4 from ⟨⟨(hS.rd 7 rfl), ha.s1.nil, ha.s1.cap⟩, ⟨(hS.rd 6 rfl), ha.s2.nil, ha.s2.cap⟩, ⟨(hS.rd 5 rfl), ha.s3.nil, ha.s3.cap⟩, ⟨(hS.rd 4 rfl), ha.s4.nil, ha.s4.cap⟩⟩) hl (show Nm _ q u1 uc1 u2 uc2 u3 uc3 u4 uc4 from ⟨⟨(hS.rd 3 rfl), hu.s1.nil, hu.s1.cap⟩, ⟨(hS.rd 2 rfl), hu.s2.nil, hu.s2.cap⟩, ⟨(hS.rd 1 rfl), hu.s3.nil, hu.s3.cap⟩, ⟨(hS.rd 0 rfl), hu.s4.nil, hu.s4.cap⟩⟩) hm xorFun xor_op) ?_
  rintro _ w12 ⟨p9_1, p9_c1, p9_2, p9_c2, p9_3, p9_c3, p9_4, p9_c4, rfl, hn10, hb11⟩
  replace hS := hS.call hb11
  replace hS := hS.addR hn10.s1.rd
  replace hS := hS.addR hn10.s2.rd
  replace hS := hS.addR hn10.s3.rd
  replace hS := hS.addR hn10.s4.rd
  refine ⟨_, rfl, ?_⟩
  intro a hA
  refine seq_do (v := .agg #[.bool ((bitQ (fun x y => x ^^^ y) (fun b c => b != c) p q).1.b1), .slice p9_1 (((bitQ (fun x y => x ^^^ y) (fun b c => b != c) p q).1.t1).length) p9_c1, .slice p9_2 (((bitQ (fun x y => x ^^^ y) (fun b c => b != c) p q).1.q1).length) p9_c2, .bool ((bitQ (fun x y => x ^^^ y) (fun b c => b != c) p q).1.b2), .slice p9_3 (((bitQ (fun x y => x ^^^ y) (fun b c => b != c) p q).1.t2).length) p9_c3, .slice p9_4 (((bitQ (fun x y => x ^^^ y) (fun b c => b != c) p q).1.q2).length) p9_c4]) hA rfl rfl rfl (does_extract (vs := [.agg #[.bool ((bitQ (fun x y => x ^^^ y) (fun b c => b != c) p q).1.b1), .slice p9_1 (((bitQ (fun x y => x ^^^ y) (fun b c => b != c) p q).1.t1).length) p9_c1, .slice p9_2 (((bitQ (fun x y => x ^^^ y) (fun b c => b != c) p q).1.q1).length) p9_c2, .bool ((bitQ (fun x y => x ^^^ y) (fun b c => b != c) p q).1.b2), .slice p9_3 (((bitQ (fun x y => x ^^^ y) (fun b c => b != c) p q).1.t2).length) p9_c3, .slice p9_4 (((bitQ (fun x y => x ^^^ y) (fun b c => b != c) p q).1.q2).length) p9_c4], .int .i64 ((bitQ (fun x y => x ^^^ y) (fun b c => b != c) p q).2)]) rfl rfl) ?_
  intro a hA
  refine seq_do (v := .int .i64 ((bitQ (fun x y => x ^^^ y) (fun b c => b != c) p q).2)) hA rfl rfl rfl (does_extract (vs := [.agg #[.bool ((bitQ (fun x y => x ^^^ y) (fun b c => b != c) p q).1.b1), .slice p9_1 (((bitQ (fun x y => x ^^^ y) (fun b c => b != c) p q).1.t1).length) p9_c1, .slice p9_2 (((bitQ (fun x y => x ^^^ y) (fun b c => b != c) p q).1.q1).length) p9_c2, .bool ((bitQ (fun x y => x ^^^ y) (fun b c => b != c) p q).1.b2), .slice p9_3 (((bitQ (fun x y => x ^^^ y) (fun b c => b != c) p q).1.t2).length) p9_c3, .slice p9_4 (((bitQ (fun x y => x ^^^ y) (fun b c => b != c) p q).1.q2).length) p9_c4], .int .i64 ((bitQ (fun x y => x ^^^ y) (fun b c => b != c) p q).2)]) rfl rfl) ?_
  intro a hA
  refine seq_store (us := [.bool ((bitQ (fun x y => x ^^^ y) (fun b c => b != c) p q).1.b1), .slice p9_1 (((bitQ (fun x y => x ^^^ y) (fun b c => b != c) p q).1.t1).length) p9_c1, .slice p9_2 (((bitQ (fun x y => x ^^^ y) (fun b c => b != c) p q).1.q1).length) p9_c2, .bool ((bitQ (fun x y => x ^^^ y) (fun b c => b != c) p q).1.b2), .slice p9_3 (((bitQ (fun x y => x ^^^ y) (fun b c => b != c) p q).1.t2).length) p9_c3, .slice p9_4 (((bitQ (fun x y => x ^^^ y) (fun b c => b != c) p q).1.q2).length) p9_c4]) hA hS rfl rfl (sets_store (cs := [.bool ((bitQ (fun x y => x ^^^ y) (fun b c => b != c) p q).1.b1), .slice p9_1 (((bitQ (fun x y => x ^^^ y) (fun b c => b != c) p q).1.t1).length) p9_c1, .slice p9_2 (((bitQ (fun x y => x ^^^ y) (fun b c => b != c) p q).1.q1).length) p9_c2, .bool ((bitQ (fun x y => x ^^^ y) (fun b c => b != c) p q).1.b2), .slice p9_3 (((bitQ (fun x y => x ^^^ y) (fun b c => b != c) p q).1.t2).length) p9_c3, .slice p9_4 (((bitQ (fun x y => x ^^^ y) (fun b c => b != c) p q).1.q2).length) p9_c4]) rfl rfl rfl (by kernel_rfl) hS 0 rfl rfl rfl) 0 rfl rfl rfl rfl ?_
  intro w13 hS
  refine seq_do hA rfl rfl rfl (does_assign rfl) ?_
  intro a hA
  refine seq_end ?_
  refine hK8 _ _ ?_
  refine wp_ret ?_
  refine hret _ _ ?_
  refine ends (v := .tuple #[.agg #[.bool ((bitQ (fun x y => x ^^^ y) (fun b c => b != c) p q).1.b1), .slice p9_1 (((bitQ (fun x y => x ^^^ y) (fun b c => b != c) p q).1.t1).length) p9_c1, .slice p9_2 (((bitQ (fun x y => x ^^^ y) (fun b c => b != c) p q).1.q1).length) p9_c2, .bool ((bitQ (fun x y => x ^^^ y) (fun b c => b != c) p q).1.b2), .slice p9_3 (((bitQ (fun x y => x ^^^ y) (fun b c => b != c) p q).1.t2).length) p9_c3, .slice p9_4 (((bitQ (fun x y => x ^^^ y) (fun b c => b != c) p q).1.q2).length) p9_c4], .int .i64 ((bitQ (fun x y => x ^^^ y) (fun b c => b != c) p q).2)]) hA rfl (.cons (res_cell hS isS_26 rfl 0 rfl (cs := [.bool ((bitQ (fun x y => x ^^^ y) (fun b c => b != c) p q).1.b1), .slice p9_1 (((bitQ (fun x y => x ^^^ y) (fun b c => b != c) p q).1.t1).length) p9_c1, .slice p9_2 (((bitQ (fun x y => x ^^^ y) (fun b c => b != c) p q).1.q1).length) p9_c2, .bool ((bitQ (fun x y => x ^^^ y) (fun b c => b != c) p q).1.b2), .slice p9_3 (((bitQ (fun x y => x ^^^ y) (fun b c => b != c) p q).1.t2).length) p9_c3, .slice p9_4 (((bitQ (fun x y => x ^^^ y) (fun b c => b != c) p q).1.q2).length) p9_c4]) rfl rfl) (.cons (res_tmp rfl) .nil)) rfl ?_
  exact ⟨p9_1, p9_c1, p9_2, p9_c2, p9_3, p9_c3, p9_4, p9_c4, rfl, ⟨⟨(hS.rd 3 rfl), hn10.s1.nil, hn10.s1.cap⟩, ⟨(hS.rd 2 rfl), hn10.s2.nil, hn10.s2.cap⟩, ⟨(hS.rd 1 rfl), hn10.s3.nil, hn10.s3.cap⟩, ⟨(hS.rd 0 rfl), hn10.s4.nil, hn10.s4.cap⟩⟩, hS.bel⟩
theorem notE_any {w : World} {q : Q6} {a1 a2 a3 a4 : Option Addr} {ac1 ac2 ac3 ac4 : Nat} (ha : Nm w q a1 ac1 a2 ac2 a3 ac3 a4 ac4) (hl : LenQ q)  (hw : (want1 q != 0) = true) : Calls Try.prog 10 #[numV q a1 ac1 a2 ac2 a3 ac3 a4 ac4] w (AnsN w (notQ q)) := by
  have hS : St w w [] [(a4, q.q2), (a3, q.t2), (a2, q.q1), (a1, q.t1)] [] := ((((St.start w).addR ha.s1.rd).addR ha.s2.rd).addR ha.s3.rd).addR ha.s4.rd
  refine walk_of (l := [(0, .agg #[.bool q.b1, .slice a1 q.t1.length ac1, .slice a2 q.q1.length ac2, .bool q.b2, .slice a3 q.t2.length ac3, .slice a4 q.q2.length ac4])]) Try.func10 rfl Try.ntmps10 rfl rfl ?_
  intro Q hret hnorm hP a hA
  refine wp_seq_k (fun K1 hK1 => ?_)
  refine wp_region_lit ?_
  refine seq_new (vs := [.bool q.b1, .slice a1 q.t1.length ac1, .slice a2 q.q1.length ac2, .bool q.b2, .slice a3 q.t2.length ac3, .slice a4 q.q2.length ac4]) (t := 26) hA hS rfl rfl rfl (fun g => .pointer (some ⟨g, 0, none⟩)) (does_box rfl rfl) rfl ?_
  intro g2 w3 hS a hA
  refine seq_new (vs := [.bool false, .slice none 0 0, .slice none 0 0, .bool false, .slice none 0 0, .slice none 0 0]) (t := 26) hA hS rfl rfl rfl (fun g => .pointer (some ⟨g, 0, none⟩)) (does_alloc (z := .agg #[.bool false, .slice none 0 0, .slice none 0 0, .bool false, .slice none 0 0, .slice none 0 0]) (by kernel_rfl) rfl) rfl ?_
  intro g4 w5 hS a hA
  refine seq_do hA rfl rfl rfl (does_assign rfl) ?_
  intro a hA
  refine seq_end ?_
  refine hK1 _ _ ?_
  refine wp_seq_k (fun K6 hK6 => ?_)
  refine wp_seq_k (fun K7 hK7 => ?_)
  refine wp_region_lit ?_
  refine seq_do (v := .agg #[.bool q.b1, .slice a1 q.t1.length ac1, .slice a2 q.q1.length ac2, .bool q.b2, .slice a3 q.t2.length ac3, .slice a4 q.q2.length ac4]) hA rfl rfl rfl (does_loadS hS isS_26 rfl 1 rfl (cs := [.bool q.b1, .slice a1 q.t1.length ac1, .slice a2 q.q1.length ac2, .bool q.b2, .slice a3 q.t2.length ac3, .slice a4 q.q2.length ac4]) rfl rfl) ?_
  intro a hA
  refine seq_new (vs := [.bool q.b1, .slice a1 q.t1.length ac1, .slice a2 q.q1.length ac2, .bool q.b2, .slice a3 q.t2.length ac3, .slice a4 q.q2.length ac4]) (t := 26) hA hS rfl rfl rfl (fun g => .slice (some ⟨g, 0, none⟩) 1 1) (does_buildSlice rfl (by kernel_rfl)) rfl ?_
  intro g8 w9 hS a hA
  refine seq_call hA rfl rfl rfl (enters_func  rfl rfl (fun w => by kernel_rfl)) (want1_any (show Nm _ q a1 ac1 a2 ac2 a3 ac3 a4 ac4 from ⟨⟨(hS.rd 3 rfl), ha.s1.nil, ha.s1.cap⟩, ⟨(hS.rd 2 rfl), ha.s2.nil, ha.s2.cap⟩, ⟨(hS.rd 1 rfl), ha.s3.nil, ha.s3.cap⟩, ⟨(hS.rd 0 rfl), ha.s4.nil, ha.s4.cap⟩⟩) hl (hS.blk 0 rfl) rfl) ?_
  rintro _ w11 ⟨rfl, hb10⟩
  replace hS := hS.call hb10
  refine ⟨_, rfl, ?_⟩
  intro a hA
  refine seq_do hA rfl rfl rfl (does_assign rfl) ?_
  intro a hA
  refine seq_end ?_
  refine hK7 _ _ ?_
  refine wp_seq_k (fun K12 hK12 => ?_)
  refine wp_region_lit ?_
  refine seq_do hA rfl rfl rfl (does_move rfl) ?_
  intro a hA
  refine seq_do (v := .bool true) hA rfl rfl rfl (does_bin rfl rfl (fun w => (bin_neq w).trans (by rw [show ((want1 q != 0)) = true from hw]))) ?_
  intro a hA
  refine seq_end ?_
  refine hK12 _ _ ?_
  refine wp_cond_true (hA.ev rfl) ?_
  refine wp_seq_k (fun K13 hK13 => ?_)
  refine wp_region_lit ?_
  refine seq_do (v := .agg #[.bool false, .slice none 0 0, .slice none 0 0, .bool false, .slice none 0 0, .slice none 0 0]) hA rfl rfl rfl (does_build rfl (fun w => by kernel_rfl)) ?_
  intro a hA
  refine seq_do hA rfl rfl rfl (does_move rfl) ?_
  intro a hA
  refine seq_store (us := [.bool false, .slice none 0 0, .slice none 0 0, .bool false, .slice none 0 0, .slice none 0 0]) hA hS rfl rfl (sets_store (cs := [.bool false, .slice none 0 0, .slice none 0 0, .bool false, .slice none 0 0, .slice none 0 0]) rfl rfl rfl (by kernel_rfl) hS 1 rfl rfl rfl) 1 rfl rfl rfl rfl ?_
  intro w14 hS
  refine seq_do hA rfl rfl rfl (does_assign rfl) ?_
  intro a hA
  refine seq_end ?_
  refine hK13 _ _ ?_
  refine wp_ret ?_
  refine hret _ _ ?_
  refine ends (v := .tuple #[.agg #[.bool false, .slice none 0 0, .slice none 0 0, .bool false, .slice none 0 0, .slice none 0 0], .int .i64 (want1 q)]) hA rfl (.cons (res_cell hS isS_26 rfl 1 rfl (cs := [.bool false, .slice none 0 0, .slice none 0 0, .bool false, .slice none 0 0, .slice none 0 0]) rfl rfl) (.cons (res_tmp rfl) .nil)) rfl ?_
  rw [notQ_err hw]
  exact ⟨none, 0, none, 0, none, 0, none, 0, rfl, ⟨(Sc.none _), (Sc.none _), (Sc.none _), (Sc.none _)⟩, hS.bel⟩
theorem notW_any {w : World} {b : Bool} {x : Nat} {a1 a2 a3 a4 : Option Addr} {ac1 ac2 ac3 ac4 : Nat} (ha : Nm w (Q6.whole b x) a1 ac1 a2 ac2 a3 ac3 a4 ac4) (hl : LenQ (Q6.whole b x))  (hw : want1 (Q6.whole b x) = 0) (hx : (words x).length ≤ 512) (hb : b.toNat ≤ x) : Calls Try.prog 10 #[numV (Q6.whole b x) a1 ac1 a2 ac2 a3 ac3 a4 ac4] w (AnsN w (notQ (Q6.whole b x))) := by
  have hS : St w w [] [(a4, [1]), (a3, []), (a2, [1]), (a1, words x)] [] := ((((St.start w).addR ha.s1.rd).addR ha.s2.rd).addR ha.s3.rd).addR ha.s4.rd
  refine walk_of (l := [(0, .agg #[.bool b, .slice a1 ((words x).length) ac1, .slice a2 1 ac2, .bool false, .slice a3 0 ac3, .slice a4 1 ac4])]) Try.func10 rfl Try.ntmps10 rfl rfl ?_
  intro Q hret hnorm hP a hA
  refine wp_seq_k (fun K1 hK1 => ?_)
  refine wp_region_lit ?_
  refine seq_new (vs := [.bool b, .slice a1 ((words x).length) ac1, .slice a2 1 ac2, .bool false, .slice a3 0 ac3, .slice a4 1 ac4]) (t := 26) hA hS rfl rfl rfl (fun g => .pointer (some ⟨g, 0, none⟩)) (does_box rfl rfl) rfl ?_
  intro g2 w3 hS a hA
  refine seq_new (vs := [.bool false, .slice none 0 0, .slice none 0 0, .bool false, .slice none 0 0, .slice none 0 0]) (t := 26) hA hS rfl rfl rfl (fun g => .pointer (some ⟨g, 0, none⟩)) (does_alloc (z := .agg #[.bool false, .slice none 0 0, .slice none 0 0, .bool false, .slice none 0 0, .slice none 0 0]) (by kernel_rfl) rfl) rfl ?_
  intro g4 w5 hS a hA
  refine seq_do hA rfl rfl rfl (does_assign rfl) ?_
  intro a hA
  refine seq_end ?_
  refine hK1 _ _ ?_
  refine wp_seq_k (fun K6 hK6 => ?_)
  refine wp_seq_k (fun K7 hK7 => ?_)
  refine wp_region_lit ?_
  refine seq_do (v := .agg #[.bool b, .slice a1 ((words x).length) ac1, .slice a2 1 ac2, .bool false, .slice a3 0 ac3, .slice a4 1 ac4]) hA rfl rfl rfl (does_loadS hS isS_26 rfl 1 rfl (cs := [.bool b, .slice a1 ((words x).length) ac1, .slice a2 1 ac2, .bool false, .slice a3 0 ac3, .slice a4 1 ac4]) rfl rfl) ?_
  intro a hA
  refine seq_new (vs := [.bool b, .slice a1 ((words x).length) ac1, .slice a2 1 ac2, .bool false, .slice a3 0 ac3, .slice a4 1 ac4]) (t := 26) hA hS rfl rfl rfl (fun g => .slice (some ⟨g, 0, none⟩) 1 1) (does_buildSlice rfl (by kernel_rfl)) rfl ?_
  intro g8 w9 hS a hA
  refine seq_call hA rfl rfl rfl (enters_func  rfl rfl (fun w => by kernel_rfl)) (want1_any (show Nm _ (Q6.whole b x) a1 ac1 a2 ac2 a3 ac3 a4 ac4 from ⟨⟨(hS.rd 3 rfl), ha.s1.nil, ha.s1.cap⟩, ⟨(hS.rd 2 rfl), ha.s2.nil, ha.s2.cap⟩, ⟨(hS.rd 1 rfl), ha.s3.nil, ha.s3.cap⟩, ⟨(hS.rd 0 rfl), ha.s4.nil, ha.s4.cap⟩⟩) hl (hS.blk 0 rfl) hw) ?_
  rintro _ w11 ⟨rfl, hb10⟩
  replace hS := hS.call hb10
  refine ⟨_, rfl, ?_⟩
  intro a hA
  refine seq_do hA rfl rfl rfl (does_assign rfl) ?_
  intro a hA
  refine seq_end ?_
  refine hK7 _ _ ?_
  refine wp_seq_k (fun K12 hK12 => ?_)
  refine wp_region_lit ?_
  refine seq_do hA rfl rfl rfl (does_move rfl) ?_
  intro a hA
  refine seq_do (v := .bool false) hA rfl rfl rfl (does_bin rfl rfl (fun w => by kernel_rfl)) ?_
  intro a hA
  refine seq_end ?_
  refine hK12 _ _ ?_
  refine wp_cond_false (hA.ev rfl) ?_
  refine wp_skip ?_
  refine hK6 _ _ ?_
  refine wp_seq_k (fun K13 hK13 => ?_)
  refine wp_region_lit ?_
  refine seq_do (v := .agg #[.bool b, .slice a1 ((words x).length) ac1, .slice a2 1 ac2, .bool false, .slice a3 0 ac3, .slice a4 1 ac4]) hA rfl rfl rfl (does_loadS hS isS_26 rfl 2 rfl (cs := [.bool b, .slice a1 ((words x).length) ac1, .slice a2 1 ac2, .bool false, .slice a3 0 ac3, .slice a4 1 ac4]) rfl rfl) ?_
  intro a hA
  refine seq_call hA rfl rfl rfl (enters_func  rfl rfl (fun w => by kernel_rfl)) (rowOf_any (show Nm _ (Q6.whole b x) a1 ac1 a2 ac2 a3 ac3 a4 ac4 from ⟨⟨(hS.rd 3 rfl), ha.s1.nil, ha.s1.cap⟩, ⟨(hS.rd 2 rfl), ha.s2.nil, ha.s2.cap⟩, ⟨(hS.rd 1 rfl), ha.s3.nil, ha.s3.cap⟩, ⟨(hS.rd 0 rfl), ha.s4.nil, ha.s4.cap⟩⟩) hx hb) ?_
  rintro _ w18 ⟨ro14, rc15, rfl, hs16, hb17⟩
  replace hS := hS.call hb17
  replace hS := hS.addR hs16.rd
  refine ⟨_, rfl, ?_⟩
  intro a hA
  refine seq_call hA rfl rfl rfl (enters_func  rfl rfl (fun w => by kernel_rfl)) (turned_any) ?_
  rintro _ w20 ⟨rfl, hb19⟩
  replace hS := hS.call hb19
  refine ⟨_, rfl, ?_⟩
  intro a hA
  refine seq_call hA rfl rfl rfl (enters_func  rfl rfl (fun w => by kernel_rfl)) (number_any (b := !b) ⟨(hS.rd 0 rfl), hs16.nil, hs16.cap⟩ (sub_len hx)) ?_
  rintro _ w24 ⟨p21_1, p21_c1, p21_2, p21_c2, p21_3, p21_c3, p21_4, p21_c4, rfl, hn22, hb23⟩
  replace hS := hS.call hb23
  replace hS := hS.addR hn22.s1.rd
  replace hS := hS.addR hn22.s2.rd
  replace hS := hS.addR hn22.s3.rd
  replace hS := hS.addR hn22.s4.rd
  refine ⟨_, rfl, ?_⟩
  intro a hA
  refine seq_do (v := .agg #[.bool ((bigS (!b) (x - b.toNat + (!b).toNat)).1.b1), .slice p21_1 (((bigS (!b) (x - b.toNat + (!b).toNat)).1.t1).length) p21_c1, .slice p21_2 (((bigS (!b) (x - b.toNat + (!b).toNat)).1.q1).length) p21_c2, .bool ((bigS (!b) (x - b.toNat + (!b).toNat)).1.b2), .slice p21_3 (((bigS (!b) (x - b.toNat + (!b).toNat)).1.t2).length) p21_c3, .slice p21_4 (((bigS (!b) (x - b.toNat + (!b).toNat)).1.q2).length) p21_c4]) hA rfl rfl rfl (does_extract (vs := [.agg #[.bool ((bigS (!b) (x - b.toNat + (!b).toNat)).1.b1), .slice p21_1 (((bigS (!b) (x - b.toNat + (!b).toNat)).1.t1).length) p21_c1, .slice p21_2 (((bigS (!b) (x - b.toNat + (!b).toNat)).1.q1).length) p21_c2, .bool ((bigS (!b) (x - b.toNat + (!b).toNat)).1.b2), .slice p21_3 (((bigS (!b) (x - b.toNat + (!b).toNat)).1.t2).length) p21_c3, .slice p21_4 (((bigS (!b) (x - b.toNat + (!b).toNat)).1.q2).length) p21_c4], .int .i64 ((bigS (!b) (x - b.toNat + (!b).toNat)).2)]) rfl rfl) ?_
  intro a hA
  refine seq_do (v := .int .i64 ((bigS (!b) (x - b.toNat + (!b).toNat)).2)) hA rfl rfl rfl (does_extract (vs := [.agg #[.bool ((bigS (!b) (x - b.toNat + (!b).toNat)).1.b1), .slice p21_1 (((bigS (!b) (x - b.toNat + (!b).toNat)).1.t1).length) p21_c1, .slice p21_2 (((bigS (!b) (x - b.toNat + (!b).toNat)).1.q1).length) p21_c2, .bool ((bigS (!b) (x - b.toNat + (!b).toNat)).1.b2), .slice p21_3 (((bigS (!b) (x - b.toNat + (!b).toNat)).1.t2).length) p21_c3, .slice p21_4 (((bigS (!b) (x - b.toNat + (!b).toNat)).1.q2).length) p21_c4], .int .i64 ((bigS (!b) (x - b.toNat + (!b).toNat)).2)]) rfl rfl) ?_
  intro a hA
  refine seq_store (us := [.bool ((bigS (!b) (x - b.toNat + (!b).toNat)).1.b1), .slice p21_1 (((bigS (!b) (x - b.toNat + (!b).toNat)).1.t1).length) p21_c1, .slice p21_2 (((bigS (!b) (x - b.toNat + (!b).toNat)).1.q1).length) p21_c2, .bool ((bigS (!b) (x - b.toNat + (!b).toNat)).1.b2), .slice p21_3 (((bigS (!b) (x - b.toNat + (!b).toNat)).1.t2).length) p21_c3, .slice p21_4 (((bigS (!b) (x - b.toNat + (!b).toNat)).1.q2).length) p21_c4]) hA hS rfl rfl (sets_store (cs := [.bool ((bigS (!b) (x - b.toNat + (!b).toNat)).1.b1), .slice p21_1 (((bigS (!b) (x - b.toNat + (!b).toNat)).1.t1).length) p21_c1, .slice p21_2 (((bigS (!b) (x - b.toNat + (!b).toNat)).1.q1).length) p21_c2, .bool ((bigS (!b) (x - b.toNat + (!b).toNat)).1.b2), .slice p21_3 (((bigS (!b) (x - b.toNat + (!b).toNat)).1.t2).length) p21_c3, .slice p21_4 (((bigS (!b) (x - b.toNat + (!b).toNat)).1.q2).length) p21_c4]) rfl rfl rfl (by kernel_rfl) hS 1 rfl rfl rfl) 1 rfl rfl rfl rfl ?_
  intro w25 hS
  refine seq_do hA rfl rfl rfl (does_assign rfl) ?_
  intro a hA
  refine seq_end ?_
  refine hK13 _ _ ?_
  refine wp_ret ?_
  refine hret _ _ ?_
  refine ends (v := .tuple #[.agg #[.bool ((bigS (!b) (x - b.toNat + (!b).toNat)).1.b1), .slice p21_1 (((bigS (!b) (x - b.toNat + (!b).toNat)).1.t1).length) p21_c1, .slice p21_2 (((bigS (!b) (x - b.toNat + (!b).toNat)).1.q1).length) p21_c2, .bool ((bigS (!b) (x - b.toNat + (!b).toNat)).1.b2), .slice p21_3 (((bigS (!b) (x - b.toNat + (!b).toNat)).1.t2).length) p21_c3, .slice p21_4 (((bigS (!b) (x - b.toNat + (!b).toNat)).1.q2).length) p21_c4], .int .i64 ((bigS (!b) (x - b.toNat + (!b).toNat)).2)]) hA rfl (.cons (res_cell hS isS_26 rfl 1 rfl (cs := [.bool ((bigS (!b) (x - b.toNat + (!b).toNat)).1.b1), .slice p21_1 (((bigS (!b) (x - b.toNat + (!b).toNat)).1.t1).length) p21_c1, .slice p21_2 (((bigS (!b) (x - b.toNat + (!b).toNat)).1.q1).length) p21_c2, .bool ((bigS (!b) (x - b.toNat + (!b).toNat)).1.b2), .slice p21_3 (((bigS (!b) (x - b.toNat + (!b).toNat)).1.t2).length) p21_c3, .slice p21_4 (((bigS (!b) (x - b.toNat + (!b).toNat)).1.q2).length) p21_c4]) rfl rfl) (.cons (res_tmp rfl) .nil)) rfl ?_
  rw [notQ_whole hw, ← turn_sum hb]
  exact ⟨p21_1, p21_c1, p21_2, p21_c2, p21_3, p21_c3, p21_4, p21_c4, rfl, ⟨⟨(hS.rd 3 rfl), hn22.s1.nil, hn22.s1.cap⟩, ⟨(hS.rd 2 rfl), hn22.s2.nil, hn22.s2.cap⟩, ⟨(hS.rd 1 rfl), hn22.s3.nil, hn22.s3.cap⟩, ⟨(hS.rd 0 rfl), hn22.s4.nil, hn22.s4.cap⟩⟩, hS.bel⟩
end Go.Proofs.Yteghiinbafbokaa
namespace Go.Proofs.Yteghiinbafbokaa
open Go.RowKit
set_option linter.unusedVariables false
set_option linter.unusedSimpArgs false

def intQ (n : Int) : Q6 := Q6.whole (decide (n < 0)) n.natAbs
section
variable {P : Program}
theorem conv_up {s d : TypeId} {k : Nat} (hs : P.underlying s = some (.int .i64)) (hd : P.underlying d = some (.int .u64)) (h : k ≤ 9223372036854775807) : ∀ w, (convert s d (.int .i64 ((k : Nat) : Int))).run P w = .ok (.int .u64 ((k : Nat) : Int)) w := fun w => by
  have := wrap_u64 k (by omega)
  simp [convert, run_underlying hs, run_underlying hd, go_sem, this]
theorem u64_neg {k : Nat} (h0 : 0 < k) (h : k ≤ 9223372036854775808) : IntKind.u64.wrap (-((k : Nat) : Int)) = ((18446744073709551616 - k : Nat) : Int) := by
  rw [IntKind.wrap_u64]
  omega
theorem conv_neg {s d : TypeId} {k : Nat} (hs : P.underlying s = some (.int .i64)) (hd : P.underlying d = some (.int .u64)) (h0 : 0 < k) (h : k ≤ 9223372036854775808) : ∀ w, (convert s d (.int .i64 (-((k : Nat) : Int)))).run P w = .ok (.int .u64 ((18446744073709551616 - k : Nat) : Int)) w := fun w => by
  have := u64_neg h0 h
  simp [convert, run_underlying hs, run_underlying hd, go_sem, this]
theorem un_negU {k : Nat} (h0 : 0 < k) (h : k ≤ 9223372036854775808) : ∀ w, (Op.unary .neg (.int .u64 ((18446744073709551616 - k : Nat) : Int))).run P w = .ok (.int .u64 ((k : Nat) : Int)) w := fun w => by
  have e : IntKind.u64.wrap (-((18446744073709551616 - k : Nat) : Int)) = ((k : Nat) : Int) := by rw [IntKind.wrap_u64]; omega
  simp [go_sem, e]
end
def sameF (b : Bool) (t q : List Nat) (b' : Bool) (t' q' : List Nat) : Bool := (b == b') && (decide (t = t') && decide (q = q'))
def sameQ (p q : Q6) : Bool := soundQ p && (soundQ q && (sameF p.b1 p.t1 p.q1 q.b1 q.t1 q.q1 && sameF p.b2 p.t2 p.q2 q.b2 q.t2 q.q2))
theorem sameF_refl (b : Bool) (t q : List Nat) : sameF b t q b t q = true := by simp [sameF]
theorem sameQ_self {q : Q6} (h : soundQ q = true) : sameQ q q = true := by simp [sameQ, h, sameF_refl]
theorem sameQ_iff {p q : Q6} : sameQ p q = true ↔ soundQ p = true ∧ soundQ q = true ∧ p = q := by
  unfold sameQ sameF
  simp only [Bool.and_eq_true, beq_iff_eq, decide_eq_true_eq]
  constructor
  · rintro ⟨h1, h2, ⟨h3, h4, h5⟩, h6, h7, h8⟩
    refine ⟨h1, h2, ?_⟩
    cases p; cases q
    simp_all
  · rintro ⟨h1, h2, rfl⟩
    exact ⟨h1, h2, ⟨rfl, rfl, rfl⟩, rfl, rfl, rfl⟩
theorem equalB_any {w : World} {ao bo : Option Addr} {l1 l2 : List Nat} (ca cb : Nat) (ha : Rd w ao l1) (hb : Rd w bo l2) (h1 : l1.length ≤ 9223372036854775807) (h2 : l2.length ≤ 9223372036854775807) {r : Bool} (hr : decide (l1 = l2) = r) :
    Calls Try.prog 86 #[.slice ao l1.length ca, .slice bo l2.length cb] w fun e w' => e = .returned (.bool r) ∧ Below w.heap.size w w' := by
  subst hr
  exact equal_any ca cb ha hb h1 h2
theorem soundQ_whole {b : Bool} {x : Nat} (hx : (words x).length ≤ 512) (hb : b.toNat ≤ x) : soundQ (Q6.whole b x) = true := by
  unfold soundQ soundN
  simp only [Q6.whole]
  have h1 : (words 1).length ≤ 512 := by rw [words_one]; decide
  have h0 : (words 0).length ≤ 512 := by rw [words_zero]; decide
  have e1 : fracS b (words x) [1] = true := by
    rw [← words_one, fracS_words hx h1, Nat.gcd_one_right, words_one]
    cases b with
    | false => simp
    | true =>
      have : x ≠ 0 := by simp at hb; omega
      have : (words x).length ≠ 0 := fun e => this (words_eq_nil.1 (List.length_eq_zero_iff.1 e))
      simp [words_eq_nil]
      assumption
  have e2 : fracS false [] [1] = true := by
    rw [← words_one, ← words_zero, fracS_words h0 h1, Nat.gcd_one_right, words_one]
    simp
  rw [e1, e2]
  rfl
theorem wholeQ_whole {b : Bool} {x : Nat} (hx : (words x).length ≤ 512) (hb : b.toNat ≤ x) : wholeQ (Q6.whole b x) = true := by
  unfold wholeQ
  rw [soundQ_whole hx hb]
  simp [Q6.whole]
theorem lenQ_whole {b : Bool} {x : Nat} (hx : (words x).length ≤ 512) : LenQ (Q6.whole b x) := ⟨by simp only [Q6.whole]; omega, by simp [Q6.whole], by simp [Q6.whole], by simp [Q6.whole]⟩
theorem one_len : (words 1).length ≤ 512 := by rw [words_one]; decide
theorem words_five : words 5 = [5] := by rw [words_pos (by omega)]; simp [words_zero]
theorem five_len : (words 5).length ≤ 512 := by rw [words_five]; decide
theorem awake_and : bitQ (fun x y => x &&& y) (fun b c => b && c) (Q6.whole true 1) (Q6.whole false 5) = (Q6.whole false 5, 0) := by
  have hw : want2 (Q6.whole true 1) (Q6.whole false 5) = 0 := by
    unfold want2
    rw [soundQ_whole one_len (by decide), soundQ_whole five_len (by decide), wholeQ_whole one_len (by decide), wholeQ_whole five_len (by decide)]
    simp
  rw [bitQ_whole hw]
  have e : putY (fun x y => x &&& y) (fun b c => b && c) true (1 - true.toNat) false (5 - false.toNat) + (true && false).toNat = 5 := by
    unfold putY
    show val (outL _ _ true 0 false 5 (max (words 0).length (words 5).length)) + 0 = 5
    rw [words_zero, words_five]
    decide
  rw [e]
  exact bigS_pos five_len
end Go.Proofs.Yteghiinbafbokaa
namespace Go.Proofs.Yteghiinbafbokaa
open Go.RowKit
set_option linter.unusedVariables false
set_option linter.unusedSimpArgs false
set_option maxRecDepth 100000

theorem intP_any {w : World} {k : Nat} (hk : k ≤ 9223372036854775807) : Calls Try.prog 34 #[.int .i64 (((k : Nat) : Int))] w (AnsV w (Q6.whole false k)) := by
  have hS : St w w [] [] [] := St.start w
  refine walk_of (l := [(0, .int .i64 (((k : Nat) : Int)))]) Try.func34 rfl Try.ntmps34 rfl rfl ?_
  intro Q hret hnorm hP a hA
  refine wp_seq_k (fun K1 hK1 => ?_)
  refine wp_region_lit ?_
  refine seq_new (vs := [.bool false, .slice none 0 0, .slice none 0 0, .bool false, .slice none 0 0, .slice none 0 0]) (t := 26) hA hS rfl rfl rfl (fun g => .pointer (some ⟨g, 0, none⟩)) (does_alloc (z := .agg #[.bool false, .slice none 0 0, .slice none 0 0, .bool false, .slice none 0 0, .slice none 0 0]) (by kernel_rfl) rfl) rfl ?_
  intro g2 w3 hS a hA
  refine seq_end ?_
  refine hK1 _ _ ?_
  refine wp_seq_k (fun K4 hK4 => ?_)
  refine wp_region_lit ?_
  refine seq_do hA rfl rfl rfl (does_move rfl) ?_
  intro a hA
  refine seq_do (v := .int .u64 (((k : Nat) : Int))) hA rfl rfl rfl (does_convert rfl (conv_up Try.underlying3 Try.underlying73 hk)) ?_
  intro a hA
  refine seq_do hA rfl rfl rfl (does_assign rfl) ?_
  intro a hA
  refine seq_end ?_
  refine hK4 _ _ ?_
  refine wp_seq_k (fun K5 hK5 => ?_)
  refine wp_seq_k (fun K6 hK6 => ?_)
  refine wp_region_lit ?_
  refine seq_do hA rfl rfl rfl (does_move rfl) ?_
  intro a hA
  refine seq_do (v := .bool false) hA rfl rfl rfl (does_bin rfl rfl (fun w => (bin_lss w).trans (by rw [show (decide (((k : Nat) : Int) < 0)) = false from decide_eq_false (by omega)]))) ?_
  intro a hA
  refine seq_end ?_
  refine hK6 _ _ ?_
  refine wp_cond_false (hA.ev rfl) ?_
  refine wp_skip ?_
  refine hK5 _ _ ?_
  refine wp_seq_k (fun K7 hK7 => ?_)
  refine wp_region_lit ?_
  refine seq_do hA rfl rfl rfl (does_move rfl) ?_
  intro a hA
  refine seq_do (v := .bool false) hA rfl rfl rfl (does_bin rfl rfl (fun w => (bin_lss w).trans (by rw [show (decide (((k : Nat) : Int) < 0)) = false from decide_eq_false (by omega)]))) ?_
  intro a hA
  refine seq_do hA rfl rfl rfl (does_move rfl) ?_
  intro a hA
  refine seq_call hA rfl rfl rfl (enters_func  rfl rfl (fun w => by kernel_rfl)) (of_any k _ (by omega)) ?_
  rintro _ w12 ⟨ro8, rc9, rfl, ho10, hb11⟩
  replace hS := hS.call hb11
  replace hS := hS.addR ho10.rd
  refine ⟨_, rfl, ?_⟩
  intro a hA
  refine seq_call hA rfl rfl rfl (enters_func  rfl rfl (fun w => by kernel_rfl)) (of_one _) ?_
  rintro _ w17 ⟨ro13, rc14, rfl, ho15, hb16⟩
  replace hS := hS.call hb16
  replace hS := hS.addR ho15.rd
  refine ⟨_, rfl, ?_⟩
  intro a hA
  refine seq_do (v := .agg #[.bool false, .slice ro8 ((words k).length) rc9, .slice ro13 1 rc14]) hA rfl rfl rfl (does_build rfl (fun w => by kernel_rfl)) ?_
  intro a hA
  refine seq_call hA rfl rfl rfl (enters_func  rfl rfl (fun w => by kernel_rfl)) (of_one _) ?_
  rintro _ w22 ⟨ro18, rc19, rfl, ho20, hb21⟩
  replace hS := hS.call hb21
  replace hS := hS.addR ho20.rd
  refine ⟨_, rfl, ?_⟩
  intro a hA
  refine seq_do (v := .agg #[.bool false, .slice none 0 0, .slice ro18 1 rc19]) hA rfl rfl rfl (does_build rfl (fun w => by kernel_rfl)) ?_
  intro a hA
  refine seq_do (v := .agg #[.bool false, .slice ro8 ((words k).length) rc9, .slice ro13 1 rc14, .bool false, .slice none 0 0, .slice ro18 1 rc19]) hA rfl rfl rfl (does_build rfl (fun w => by kernel_rfl)) ?_
  intro a hA
  refine seq_store (us := [.bool false, .slice ro8 ((words k).length) rc9, .slice ro13 1 rc14, .bool false, .slice none 0 0, .slice ro18 1 rc19]) hA hS rfl rfl (sets_store (cs := [.bool false, .slice ro8 ((words k).length) rc9, .slice ro13 1 rc14, .bool false, .slice none 0 0, .slice ro18 1 rc19]) rfl rfl rfl (by kernel_rfl) hS 0 rfl rfl rfl) 0 rfl rfl rfl rfl ?_
  intro w23 hS
  refine seq_end ?_
  refine hK7 _ _ ?_
  refine wp_ret ?_
  refine hret _ _ ?_
  refine ends (v := .agg #[.bool false, .slice ro8 ((words k).length) rc9, .slice ro13 1 rc14, .bool false, .slice none 0 0, .slice ro18 1 rc19]) hA rfl (.cons (res_cell hS isS_26 rfl 0 rfl (cs := [.bool false, .slice ro8 ((words k).length) rc9, .slice ro13 1 rc14, .bool false, .slice none 0 0, .slice ro18 1 rc19]) rfl rfl) .nil) rfl ?_
  exact ⟨ro8, rc9, ro13, rc14, none, 0, ro18, rc19, rfl, ⟨⟨(hS.rd 2 rfl), ho10.nocap, ho10.caps⟩, ⟨(hS.rd 1 rfl), ho15.nocap, ho15.caps⟩, (Sc.none _), ⟨(hS.rd 0 rfl), ho20.nocap, ho20.caps⟩⟩, hS.bel⟩
theorem intN_any {w : World} {k : Nat} (h0 : 0 < k) (hk : k ≤ 9223372036854775808) : Calls Try.prog 34 #[.int .i64 (-((k : Nat) : Int))] w (AnsV w (Q6.whole true k)) := by
  have hS : St w w [] [] [] := St.start w
  refine walk_of (l := [(0, .int .i64 (-((k : Nat) : Int)))]) Try.func34 rfl Try.ntmps34 rfl rfl ?_
  intro Q hret hnorm hP a hA
  refine wp_seq_k (fun K1 hK1 => ?_)
  refine wp_region_lit ?_
  refine seq_new (vs := [.bool false, .slice none 0 0, .slice none 0 0, .bool false, .slice none 0 0, .slice none 0 0]) (t := 26) hA hS rfl rfl rfl (fun g => .pointer (some ⟨g, 0, none⟩)) (does_alloc (z := .agg #[.bool false, .slice none 0 0, .slice none 0 0, .bool false, .slice none 0 0, .slice none 0 0]) (by kernel_rfl) rfl) rfl ?_
  intro g2 w3 hS a hA
  refine seq_end ?_
  refine hK1 _ _ ?_
  refine wp_seq_k (fun K4 hK4 => ?_)
  refine wp_region_lit ?_
  refine seq_do hA rfl rfl rfl (does_move rfl) ?_
  intro a hA
  refine seq_do (v := .int .u64 (((18446744073709551616 - k : Nat) : Int))) hA rfl rfl rfl (does_convert rfl (conv_neg Try.underlying3 Try.underlying73 h0 hk)) ?_
  intro a hA
  refine seq_do hA rfl rfl rfl (does_assign rfl) ?_
  intro a hA
  refine seq_end ?_
  refine hK4 _ _ ?_
  refine wp_seq_k (fun K5 hK5 => ?_)
  refine wp_seq_k (fun K6 hK6 => ?_)
  refine wp_region_lit ?_
  refine seq_do hA rfl rfl rfl (does_move rfl) ?_
  intro a hA
  refine seq_do (v := .bool true) hA rfl rfl rfl (does_bin rfl rfl (fun w => (bin_lss w).trans (by rw [show (decide (-((k : Nat) : Int) < 0)) = true from decide_eq_true (by omega)]))) ?_
  intro a hA
  refine seq_end ?_
  refine hK6 _ _ ?_
  refine wp_cond_true (hA.ev rfl) ?_
  refine wp_region_lit ?_
  refine seq_do hA rfl rfl rfl (does_move rfl) ?_
  intro a hA
  refine seq_do (v := .int .u64 (((k : Nat) : Int))) hA rfl rfl rfl (does_un rfl (un_negU h0 hk)) ?_
  intro a hA
  refine seq_do hA rfl rfl rfl (does_assign rfl) ?_
  intro a hA
  refine seq_end ?_
  refine hK5 _ _ ?_
  refine wp_seq_k (fun K7 hK7 => ?_)
  refine wp_region_lit ?_
  refine seq_do hA rfl rfl rfl (does_move rfl) ?_
  intro a hA
  refine seq_do (v := .bool true) hA rfl rfl rfl (does_bin rfl rfl (fun w => (bin_lss w).trans (by rw [show (decide (-((k : Nat) : Int) < 0)) = true from decide_eq_true (by omega)]))) ?_
  intro a hA
  refine seq_do hA rfl rfl rfl (does_move rfl) ?_
  intro a hA
  refine seq_call hA rfl rfl rfl (enters_func  rfl rfl (fun w => by kernel_rfl)) (of_any k _ (by omega)) ?_
  rintro _ w12 ⟨ro8, rc9, rfl, ho10, hb11⟩
  replace hS := hS.call hb11
  replace hS := hS.addR ho10.rd
  refine ⟨_, rfl, ?_⟩
  intro a hA
  refine seq_call hA rfl rfl rfl (enters_func  rfl rfl (fun w => by kernel_rfl)) (of_one _) ?_
  rintro _ w17 ⟨ro13, rc14, rfl, ho15, hb16⟩
  replace hS := hS.call hb16
  replace hS := hS.addR ho15.rd
  refine ⟨_, rfl, ?_⟩
  intro a hA
  refine seq_do (v := .agg #[.bool true, .slice ro8 ((words k).length) rc9, .slice ro13 1 rc14]) hA rfl rfl rfl (does_build rfl (fun w => by kernel_rfl)) ?_
  intro a hA
  refine seq_call hA rfl rfl rfl (enters_func  rfl rfl (fun w => by kernel_rfl)) (of_one _) ?_
  rintro _ w22 ⟨ro18, rc19, rfl, ho20, hb21⟩
  replace hS := hS.call hb21
  replace hS := hS.addR ho20.rd
  refine ⟨_, rfl, ?_⟩
  intro a hA
  refine seq_do (v := .agg #[.bool false, .slice none 0 0, .slice ro18 1 rc19]) hA rfl rfl rfl (does_build rfl (fun w => by kernel_rfl)) ?_
  intro a hA
  refine seq_do (v := .agg #[.bool true, .slice ro8 ((words k).length) rc9, .slice ro13 1 rc14, .bool false, .slice none 0 0, .slice ro18 1 rc19]) hA rfl rfl rfl (does_build rfl (fun w => by kernel_rfl)) ?_
  intro a hA
  refine seq_store (us := [.bool true, .slice ro8 ((words k).length) rc9, .slice ro13 1 rc14, .bool false, .slice none 0 0, .slice ro18 1 rc19]) hA hS rfl rfl (sets_store (cs := [.bool true, .slice ro8 ((words k).length) rc9, .slice ro13 1 rc14, .bool false, .slice none 0 0, .slice ro18 1 rc19]) rfl rfl rfl (by kernel_rfl) hS 0 rfl rfl rfl) 0 rfl rfl rfl rfl ?_
  intro w23 hS
  refine seq_end ?_
  refine hK7 _ _ ?_
  refine wp_ret ?_
  refine hret _ _ ?_
  refine ends (v := .agg #[.bool true, .slice ro8 ((words k).length) rc9, .slice ro13 1 rc14, .bool false, .slice none 0 0, .slice ro18 1 rc19]) hA rfl (.cons (res_cell hS isS_26 rfl 0 rfl (cs := [.bool true, .slice ro8 ((words k).length) rc9, .slice ro13 1 rc14, .bool false, .slice none 0 0, .slice ro18 1 rc19]) rfl rfl) .nil) rfl ?_
  exact ⟨ro8, rc9, ro13, rc14, none, 0, ro18, rc19, rfl, ⟨⟨(hS.rd 2 rfl), ho10.nocap, ho10.caps⟩, ⟨(hS.rd 1 rfl), ho15.nocap, ho15.caps⟩, (Sc.none _), ⟨(hS.rd 0 rfl), ho20.nocap, ho20.caps⟩⟩, hS.bel⟩
theorem intQ_any {w : World} {n : Int} (h0 : -9223372036854775808 ≤ n) (h1 : n ≤ 9223372036854775807) : Calls Try.prog 34 #[.int .i64 n] w (AnsV w (intQ n)) := by
  by_cases h : n < 0
  · obtain ⟨k, hk⟩ := Int.eq_ofNat_of_zero_le (show 0 ≤ -n by omega)
    have e : n = -((k : Nat) : Int) := by omega
    subst e
    have := intN_any (w := w) (k := k) (by omega) (by omega)
    unfold intQ
    rw [decide_eq_true h, show (-((k : Nat) : Int)).natAbs = k from by omega]
    exact this
  · obtain ⟨k, hk⟩ := Int.eq_ofNat_of_zero_le (show 0 ≤ n by omega)
    subst hk
    have := intP_any (w := w) (k := k) (by omega)
    unfold intQ
    rw [decide_eq_false h, Int.natAbs_natCast]
    exact this
theorem sameFr_any {w : World} {b b' : Bool} {t q t' q' : List Nat} {a1 a2 : Option Addr} {ac1 ac2 : Nat} (ha1 : Sc w a1 ac1 t) (ha2 : Sc w a2 ac2 q) {u1 u2 : Option Addr} {uc1 uc2 : Nat} (hu1 : Sc w u1 uc1 t') (hu2 : Sc w u2 uc2 q') (l1 : t.length ≤ 9223372036854775807) (l2 : q.length ≤ 9223372036854775807) (l3 : t'.length ≤ 9223372036854775807) (l4 : q'.length ≤ 9223372036854775807) {r : Bool} (hr : sameF b t q b' t' q' = r) :
    Calls Try.prog 60 #[.agg #[.bool b, .slice a1 t.length ac1, .slice a2 q.length ac2], .agg #[.bool b', .slice u1 t'.length uc1, .slice u2 q'.length uc2]] w fun e w' => e = .returned (.bool r) ∧ Below w.heap.size w w' := by
  have hS : St w w [] [(u2, q'), (u1, t'), (a2, q), (a1, t)] [] := ((((St.start w).addR ha1.rd).addR ha2.rd).addR hu1.rd).addR hu2.rd
  refine walk_of (l := [(0, .agg #[.bool b, .slice a1 t.length ac1, .slice a2 q.length ac2]), (1, .agg #[.bool b', .slice u1 t'.length uc1, .slice u2 q'.length uc2])]) Try.func60 rfl Try.ntmps60 rfl rfl ?_
  intro Q hret hnorm hP a hA
  refine wp_seq_k (fun K1 hK1 => ?_)
  refine wp_region_lit ?_
  refine seq_new (vs := [.bool b, .slice a1 t.length ac1, .slice a2 q.length ac2]) (t := 24) hA hS rfl rfl rfl (fun g => .pointer (some ⟨g, 0, none⟩)) (does_box rfl rfl) rfl ?_
  intro g2 w3 hS a hA
  refine seq_new (vs := [.bool b', .slice u1 t'.length uc1, .slice u2 q'.length uc2]) (t := 24) hA hS rfl rfl rfl (fun g => .pointer (some ⟨g, 0, none⟩)) (does_box rfl rfl) rfl ?_
  intro g4 w5 hS a hA
  refine seq_do hA rfl rfl rfl (does_assign rfl) ?_
  intro a hA
  refine seq_end ?_
  refine hK1 _ _ ?_
  refine wp_seq_k (fun K6 hK6 => ?_)
  refine wp_region_lit ?_
  refine seq_do (v := .pointer (some ⟨g2, 0, none⟩)) hA rfl rfl rfl (does_field fld_24_0 rfl rfl) ?_
  intro a hA
  refine seq_do hA rfl rfl rfl (does_load1 hS is1_4 rfl 1 rfl rfl) ?_
  intro a hA
  refine seq_do (v := .pointer (some ⟨g4, 0, none⟩)) hA rfl rfl rfl (does_field fld_24_0 rfl rfl) ?_
  intro a hA
  refine seq_do hA rfl rfl rfl (does_load1 hS is1_4 rfl 0 rfl rfl) ?_
  intro a hA
  rcases Bool.eq_false_or_eq_true ((b == b')) with hb7 | hb7
  · have hb7' := eq_of_beq hb7
    refine seq_do (v := .bool true) hA rfl rfl rfl (does_bin rfl rfl (fun w => ((bin_eqlB Try.underlying4) w).trans (by rw [hb7]))) ?_
    intro a hA
    refine seq_do hA rfl rfl rfl (does_move rfl) ?_
    intro a hA
    refine seq_do (v := .pointer (some ⟨g2, 1, none⟩)) hA rfl rfl rfl (does_field fld_24_1 rfl rfl) ?_
    intro a hA
    refine seq_do hA rfl rfl rfl (does_load1 hS is1_22 rfl 1 rfl rfl) ?_
    intro a hA
    refine seq_do (v := .pointer (some ⟨g4, 1, none⟩)) hA rfl rfl rfl (does_field fld_24_1 rfl rfl) ?_
    intro a hA
    refine seq_do hA rfl rfl rfl (does_load1 hS is1_22 rfl 0 rfl rfl) ?_
    intro a hA
    rcases Bool.eq_false_or_eq_true (decide (t = t')) with hb8 | hb8
    · have hb8' := of_decide_eq_true hb8
      refine seq_call hA rfl rfl rfl (enters_func  rfl rfl (fun w => by kernel_rfl)) (equalB_any _ _ (hS.rd 3 rfl) (hS.rd 1 rfl) l1 l3 hb8) ?_
      rintro _ w10 ⟨rfl, hb9⟩
      replace hS := hS.call hb9
      refine ⟨_, rfl, ?_⟩
      intro a hA
      refine seq_do (v := .bool true) hA rfl rfl rfl (does_pick rfl rfl rfl rfl) ?_
      intro a hA
      refine seq_do hA rfl rfl rfl (does_move rfl) ?_
      intro a hA
      refine seq_do (v := .pointer (some ⟨g2, 2, none⟩)) hA rfl rfl rfl (does_field fld_24_2 rfl rfl) ?_
      intro a hA
      refine seq_do hA rfl rfl rfl (does_load1 hS is1_22 rfl 1 rfl rfl) ?_
      intro a hA
      refine seq_do (v := .pointer (some ⟨g4, 2, none⟩)) hA rfl rfl rfl (does_field fld_24_2 rfl rfl) ?_
      intro a hA
      refine seq_do hA rfl rfl rfl (does_load1 hS is1_22 rfl 0 rfl rfl) ?_
      intro a hA
      rcases Bool.eq_false_or_eq_true (decide (q = q')) with hb11 | hb11
      · have hb11' := of_decide_eq_true hb11
        refine seq_call hA rfl rfl rfl (enters_func  rfl rfl (fun w => by kernel_rfl)) (equalB_any _ _ (hS.rd 2 rfl) (hS.rd 0 rfl) l2 l4 hb11) ?_
        rintro _ w13 ⟨rfl, hb12⟩
        replace hS := hS.call hb12
        refine ⟨_, rfl, ?_⟩
        intro a hA
        refine seq_do (v := .bool true) hA rfl rfl rfl (does_pick rfl rfl rfl rfl) ?_
        intro a hA
        refine seq_do hA rfl rfl rfl (does_assign rfl) ?_
        intro a hA
        refine seq_end ?_
        refine hK6 _ _ ?_
        refine wp_ret ?_
        refine hret _ _ ?_
        refine ends (v := .bool true) hA rfl (.cons (res_tmp rfl) .nil) rfl ?_
        subst hr
        exact ⟨by unfold sameF; rw [hb7, hb8, hb11]; try rfl, hS.bel⟩
      · have hb11' := of_decide_eq_false hb11
        refine seq_call hA rfl rfl rfl (enters_func  rfl rfl (fun w => by kernel_rfl)) (equalB_any _ _ (hS.rd 2 rfl) (hS.rd 0 rfl) l2 l4 hb11) ?_
        rintro _ w15 ⟨rfl, hb14⟩
        replace hS := hS.call hb14
        refine ⟨_, rfl, ?_⟩
        intro a hA
        refine seq_do (v := .bool false) hA rfl rfl rfl (does_pick rfl rfl rfl rfl) ?_
        intro a hA
        refine seq_do hA rfl rfl rfl (does_assign rfl) ?_
        intro a hA
        refine seq_end ?_
        refine hK6 _ _ ?_
        refine wp_ret ?_
        refine hret _ _ ?_
        refine ends (v := .bool false) hA rfl (.cons (res_tmp rfl) .nil) rfl ?_
        subst hr
        exact ⟨by unfold sameF; rw [hb7, hb8, hb11]; try rfl, hS.bel⟩
    · have hb8' := of_decide_eq_false hb8
      refine seq_call hA rfl rfl rfl (enters_func  rfl rfl (fun w => by kernel_rfl)) (equalB_any _ _ (hS.rd 3 rfl) (hS.rd 1 rfl) l1 l3 hb8) ?_
      rintro _ w17 ⟨rfl, hb16⟩
      replace hS := hS.call hb16
      refine ⟨_, rfl, ?_⟩
      intro a hA
      refine seq_do (v := .bool false) hA rfl rfl rfl (does_pick rfl rfl rfl rfl) ?_
      intro a hA
      refine seq_do hA rfl rfl rfl (does_move rfl) ?_
      intro a hA
      refine seq_skip hA rfl rfl rfl ?_
      intro a hA
      refine seq_skip hA rfl rfl rfl ?_
      intro a hA
      refine seq_skip hA rfl rfl rfl ?_
      intro a hA
      refine seq_skip hA rfl rfl rfl ?_
      intro a hA
      refine seq_skip hA rfl rfl rfl ?_
      intro a hA
      refine seq_do (v := .bool false) hA rfl rfl rfl (does_pick rfl rfl rfl rfl) ?_
      intro a hA
      refine seq_do hA rfl rfl rfl (does_assign rfl) ?_
      intro a hA
      refine seq_end ?_
      refine hK6 _ _ ?_
      refine wp_ret ?_
      refine hret _ _ ?_
      refine ends (v := .bool false) hA rfl (.cons (res_tmp rfl) .nil) rfl ?_
      subst hr
      exact ⟨by unfold sameF; rw [hb7, hb8]; try rfl, hS.bel⟩
  · have hb7' := ne_of_beq_false hb7
    refine seq_do (v := .bool false) hA rfl rfl rfl (does_bin rfl rfl (fun w => ((bin_eqlB Try.underlying4) w).trans (by rw [hb7]))) ?_
    intro a hA
    refine seq_do hA rfl rfl rfl (does_move rfl) ?_
    intro a hA
    refine seq_skip hA rfl rfl rfl ?_
    intro a hA
    refine seq_skip hA rfl rfl rfl ?_
    intro a hA
    refine seq_skip hA rfl rfl rfl ?_
    intro a hA
    refine seq_skip hA rfl rfl rfl ?_
    intro a hA
    refine seq_skip hA rfl rfl rfl ?_
    intro a hA
    refine seq_do (v := .bool false) hA rfl rfl rfl (does_pick rfl rfl rfl rfl) ?_
    intro a hA
    refine seq_do hA rfl rfl rfl (does_move rfl) ?_
    intro a hA
    refine seq_skip hA rfl rfl rfl ?_
    intro a hA
    refine seq_skip hA rfl rfl rfl ?_
    intro a hA
    refine seq_skip hA rfl rfl rfl ?_
    intro a hA
    refine seq_skip hA rfl rfl rfl ?_
    intro a hA
    refine seq_skip hA rfl rfl rfl ?_
    intro a hA
    refine seq_do (v := .bool false) hA rfl rfl rfl (does_pick rfl rfl rfl rfl) ?_
    intro a hA
    refine seq_do hA rfl rfl rfl (does_assign rfl) ?_
    intro a hA
    refine seq_end ?_
    refine hK6 _ _ ?_
    refine wp_ret ?_
    refine hret _ _ ?_
    refine ends (v := .bool false) hA rfl (.cons (res_tmp rfl) .nil) rfl ?_
    subst hr
    exact ⟨by unfold sameF; rw [hb7]; try rfl, hS.bel⟩
theorem ratSame_any {w : World} {b b' : Bool} {t q t' q' : List Nat} {a1 a2 : Option Addr} {ac1 ac2 : Nat} (ha1 : Sc w a1 ac1 t) (ha2 : Sc w a2 ac2 q) {u1 u2 : Option Addr} {uc1 uc2 : Nat} (hu1 : Sc w u1 uc1 t') (hu2 : Sc w u2 uc2 q') (l1 : t.length ≤ 9223372036854775807) (l2 : q.length ≤ 9223372036854775807) (l3 : t'.length ≤ 9223372036854775807) (l4 : q'.length ≤ 9223372036854775807) {r : Bool} (hr : sameF b t q b' t' q' = r) :
    Calls Try.prog 36 #[.agg #[.bool b, .slice a1 t.length ac1, .slice a2 q.length ac2], .agg #[.bool b', .slice u1 t'.length uc1, .slice u2 q'.length uc2]] w fun e w' => e = .returned (.bool r) ∧ Below w.heap.size w w' := by
  have hS : St w w [] [(u2, q'), (u1, t'), (a2, q), (a1, t)] [] := ((((St.start w).addR ha1.rd).addR ha2.rd).addR hu1.rd).addR hu2.rd
  refine walk_of (l := [(0, .agg #[.bool b, .slice a1 t.length ac1, .slice a2 q.length ac2]), (1, .agg #[.bool b', .slice u1 t'.length uc1, .slice u2 q'.length uc2])]) Try.func36 rfl Try.ntmps36 rfl rfl ?_
  intro Q hret hnorm hP a hA
  refine wp_seq_k (fun K1 hK1 => ?_)
  refine wp_region_lit ?_
  refine seq_new (vs := [.bool b, .slice a1 t.length ac1, .slice a2 q.length ac2]) (t := 24) hA hS rfl rfl rfl (fun g => .pointer (some ⟨g, 0, none⟩)) (does_box rfl rfl) rfl ?_
  intro g2 w3 hS a hA
  refine seq_new (vs := [.bool b', .slice u1 t'.length uc1, .slice u2 q'.length uc2]) (t := 24) hA hS rfl rfl rfl (fun g => .pointer (some ⟨g, 0, none⟩)) (does_box rfl rfl) rfl ?_
  intro g4 w5 hS a hA
  refine seq_do hA rfl rfl rfl (does_assign rfl) ?_
  intro a hA
  refine seq_end ?_
  refine hK1 _ _ ?_
  refine wp_seq_k (fun K6 hK6 => ?_)
  refine wp_region_lit ?_
  refine seq_do (v := .pointer (some ⟨g2, 0, none⟩)) hA rfl rfl rfl (does_field fld_24_0 rfl rfl) ?_
  intro a hA
  refine seq_do hA rfl rfl rfl (does_load1 hS is1_4 rfl 1 rfl rfl) ?_
  intro a hA
  refine seq_do (v := .pointer (some ⟨g4, 0, none⟩)) hA rfl rfl rfl (does_field fld_24_0 rfl rfl) ?_
  intro a hA
  refine seq_do hA rfl rfl rfl (does_load1 hS is1_4 rfl 0 rfl rfl) ?_
  intro a hA
  rcases Bool.eq_false_or_eq_true ((b == b')) with hb7 | hb7
  · have hb7' := eq_of_beq hb7
    refine seq_do (v := .bool true) hA rfl rfl rfl (does_bin rfl rfl (fun w => ((bin_eqlB Try.underlying4) w).trans (by rw [hb7]))) ?_
    intro a hA
    refine seq_do hA rfl rfl rfl (does_move rfl) ?_
    intro a hA
    refine seq_do (v := .pointer (some ⟨g2, 1, none⟩)) hA rfl rfl rfl (does_field fld_24_1 rfl rfl) ?_
    intro a hA
    refine seq_do hA rfl rfl rfl (does_load1 hS is1_22 rfl 1 rfl rfl) ?_
    intro a hA
    refine seq_do (v := .pointer (some ⟨g4, 1, none⟩)) hA rfl rfl rfl (does_field fld_24_1 rfl rfl) ?_
    intro a hA
    refine seq_do hA rfl rfl rfl (does_load1 hS is1_22 rfl 0 rfl rfl) ?_
    intro a hA
    rcases Bool.eq_false_or_eq_true (decide (t = t')) with hb8 | hb8
    · have hb8' := of_decide_eq_true hb8
      refine seq_call hA rfl rfl rfl (enters_func  rfl rfl (fun w => by kernel_rfl)) (rsameB_any _ _ (hS.rd 3 rfl) (hS.rd 1 rfl) l1 l3 hb8) ?_
      rintro _ w10 ⟨rfl, hb9⟩
      replace hS := hS.call hb9
      refine ⟨_, rfl, ?_⟩
      intro a hA
      refine seq_do (v := .bool true) hA rfl rfl rfl (does_pick rfl rfl rfl rfl) ?_
      intro a hA
      refine seq_do hA rfl rfl rfl (does_move rfl) ?_
      intro a hA
      refine seq_do (v := .pointer (some ⟨g2, 2, none⟩)) hA rfl rfl rfl (does_field fld_24_2 rfl rfl) ?_
      intro a hA
      refine seq_do hA rfl rfl rfl (does_load1 hS is1_22 rfl 1 rfl rfl) ?_
      intro a hA
      refine seq_do (v := .pointer (some ⟨g4, 2, none⟩)) hA rfl rfl rfl (does_field fld_24_2 rfl rfl) ?_
      intro a hA
      refine seq_do hA rfl rfl rfl (does_load1 hS is1_22 rfl 0 rfl rfl) ?_
      intro a hA
      rcases Bool.eq_false_or_eq_true (decide (q = q')) with hb11 | hb11
      · have hb11' := of_decide_eq_true hb11
        refine seq_call hA rfl rfl rfl (enters_func  rfl rfl (fun w => by kernel_rfl)) (rsameB_any _ _ (hS.rd 2 rfl) (hS.rd 0 rfl) l2 l4 hb11) ?_
        rintro _ w13 ⟨rfl, hb12⟩
        replace hS := hS.call hb12
        refine ⟨_, rfl, ?_⟩
        intro a hA
        refine seq_do (v := .bool true) hA rfl rfl rfl (does_pick rfl rfl rfl rfl) ?_
        intro a hA
        refine seq_do hA rfl rfl rfl (does_assign rfl) ?_
        intro a hA
        refine seq_end ?_
        refine hK6 _ _ ?_
        refine wp_ret ?_
        refine hret _ _ ?_
        refine ends (v := .bool true) hA rfl (.cons (res_tmp rfl) .nil) rfl ?_
        subst hr
        exact ⟨by unfold sameF; rw [hb7, hb8, hb11]; try rfl, hS.bel⟩
      · have hb11' := of_decide_eq_false hb11
        refine seq_call hA rfl rfl rfl (enters_func  rfl rfl (fun w => by kernel_rfl)) (rsameB_any _ _ (hS.rd 2 rfl) (hS.rd 0 rfl) l2 l4 hb11) ?_
        rintro _ w15 ⟨rfl, hb14⟩
        replace hS := hS.call hb14
        refine ⟨_, rfl, ?_⟩
        intro a hA
        refine seq_do (v := .bool false) hA rfl rfl rfl (does_pick rfl rfl rfl rfl) ?_
        intro a hA
        refine seq_do hA rfl rfl rfl (does_assign rfl) ?_
        intro a hA
        refine seq_end ?_
        refine hK6 _ _ ?_
        refine wp_ret ?_
        refine hret _ _ ?_
        refine ends (v := .bool false) hA rfl (.cons (res_tmp rfl) .nil) rfl ?_
        subst hr
        exact ⟨by unfold sameF; rw [hb7, hb8, hb11]; try rfl, hS.bel⟩
    · have hb8' := of_decide_eq_false hb8
      refine seq_call hA rfl rfl rfl (enters_func  rfl rfl (fun w => by kernel_rfl)) (rsameB_any _ _ (hS.rd 3 rfl) (hS.rd 1 rfl) l1 l3 hb8) ?_
      rintro _ w17 ⟨rfl, hb16⟩
      replace hS := hS.call hb16
      refine ⟨_, rfl, ?_⟩
      intro a hA
      refine seq_do (v := .bool false) hA rfl rfl rfl (does_pick rfl rfl rfl rfl) ?_
      intro a hA
      refine seq_do hA rfl rfl rfl (does_move rfl) ?_
      intro a hA
      refine seq_skip hA rfl rfl rfl ?_
      intro a hA
      refine seq_skip hA rfl rfl rfl ?_
      intro a hA
      refine seq_skip hA rfl rfl rfl ?_
      intro a hA
      refine seq_skip hA rfl rfl rfl ?_
      intro a hA
      refine seq_skip hA rfl rfl rfl ?_
      intro a hA
      refine seq_do (v := .bool false) hA rfl rfl rfl (does_pick rfl rfl rfl rfl) ?_
      intro a hA
      refine seq_do hA rfl rfl rfl (does_assign rfl) ?_
      intro a hA
      refine seq_end ?_
      refine hK6 _ _ ?_
      refine wp_ret ?_
      refine hret _ _ ?_
      refine ends (v := .bool false) hA rfl (.cons (res_tmp rfl) .nil) rfl ?_
      subst hr
      exact ⟨by unfold sameF; rw [hb7, hb8]; try rfl, hS.bel⟩
  · have hb7' := ne_of_beq_false hb7
    refine seq_do (v := .bool false) hA rfl rfl rfl (does_bin rfl rfl (fun w => ((bin_eqlB Try.underlying4) w).trans (by rw [hb7]))) ?_
    intro a hA
    refine seq_do hA rfl rfl rfl (does_move rfl) ?_
    intro a hA
    refine seq_skip hA rfl rfl rfl ?_
    intro a hA
    refine seq_skip hA rfl rfl rfl ?_
    intro a hA
    refine seq_skip hA rfl rfl rfl ?_
    intro a hA
    refine seq_skip hA rfl rfl rfl ?_
    intro a hA
    refine seq_skip hA rfl rfl rfl ?_
    intro a hA
    refine seq_do (v := .bool false) hA rfl rfl rfl (does_pick rfl rfl rfl rfl) ?_
    intro a hA
    refine seq_do hA rfl rfl rfl (does_move rfl) ?_
    intro a hA
    refine seq_skip hA rfl rfl rfl ?_
    intro a hA
    refine seq_skip hA rfl rfl rfl ?_
    intro a hA
    refine seq_skip hA rfl rfl rfl ?_
    intro a hA
    refine seq_skip hA rfl rfl rfl ?_
    intro a hA
    refine seq_skip hA rfl rfl rfl ?_
    intro a hA
    refine seq_do (v := .bool false) hA rfl rfl rfl (does_pick rfl rfl rfl rfl) ?_
    intro a hA
    refine seq_do hA rfl rfl rfl (does_assign rfl) ?_
    intro a hA
    refine seq_end ?_
    refine hK6 _ _ ?_
    refine wp_ret ?_
    refine hret _ _ ?_
    refine ends (v := .bool false) hA rfl (.cons (res_tmp rfl) .nil) rfl ?_
    subst hr
    exact ⟨by unfold sameF; rw [hb7]; try rfl, hS.bel⟩
theorem sameQ_any {w : World} {p q : Q6} {a1 a2 a3 a4 : Option Addr} {ac1 ac2 ac3 ac4 : Nat} (ha : Nm w p a1 ac1 a2 ac2 a3 ac3 a4 ac4) (hl : LenQ p) {u1 u2 u3 u4 : Option Addr} {uc1 uc2 uc3 uc4 : Nat} (hu : Nm w q u1 uc1 u2 uc2 u3 uc3 u4 uc4) (hm : LenQ q) {r : Bool} (hr : sameQ p q = r) : Calls Try.prog 35 #[numV p a1 ac1 a2 ac2 a3 ac3 a4 ac4, numV q u1 uc1 u2 uc2 u3 uc3 u4 uc4] w fun e w' => e = .returned (.bool r) ∧ Below w.heap.size w w' := by
  have hS : St w w [] [(u4, q.q2), (u3, q.t2), (u2, q.q1), (u1, q.t1), (a4, p.q2), (a3, p.t2), (a2, p.q1), (a1, p.t1)] [] := ((((((((St.start w).addR ha.s1.rd).addR ha.s2.rd).addR ha.s3.rd).addR ha.s4.rd).addR hu.s1.rd).addR hu.s2.rd).addR hu.s3.rd).addR hu.s4.rd
  refine walk_of (l := [(0, .agg #[.bool p.b1, .slice a1 p.t1.length ac1, .slice a2 p.q1.length ac2, .bool p.b2, .slice a3 p.t2.length ac3, .slice a4 p.q2.length ac4]), (1, .agg #[.bool q.b1, .slice u1 q.t1.length uc1, .slice u2 q.q1.length uc2, .bool q.b2, .slice u3 q.t2.length uc3, .slice u4 q.q2.length uc4])]) Try.func35 rfl Try.ntmps35 rfl rfl ?_
  intro Q hret hnorm hP a hA
  refine wp_seq_k (fun K1 hK1 => ?_)
  refine wp_region_lit ?_
  refine seq_new (vs := [.bool p.b1, .slice a1 p.t1.length ac1, .slice a2 p.q1.length ac2, .bool p.b2, .slice a3 p.t2.length ac3, .slice a4 p.q2.length ac4]) (t := 26) hA hS rfl rfl rfl (fun g => .pointer (some ⟨g, 0, none⟩)) (does_box rfl rfl) rfl ?_
  intro g2 w3 hS a hA
  refine seq_new (vs := [.bool q.b1, .slice u1 q.t1.length uc1, .slice u2 q.q1.length uc2, .bool q.b2, .slice u3 q.t2.length uc3, .slice u4 q.q2.length uc4]) (t := 26) hA hS rfl rfl rfl (fun g => .pointer (some ⟨g, 0, none⟩)) (does_box rfl rfl) rfl ?_
  intro g4 w5 hS a hA
  refine seq_do hA rfl rfl rfl (does_assign rfl) ?_
  intro a hA
  refine seq_end ?_
  refine hK1 _ _ ?_
  refine wp_seq_k (fun K6 hK6 => ?_)
  refine wp_region_lit ?_
  refine seq_do (v := .agg #[.bool p.b1, .slice a1 p.t1.length ac1, .slice a2 p.q1.length ac2, .bool p.b2, .slice a3 p.t2.length ac3, .slice a4 p.q2.length ac4]) hA rfl rfl rfl (does_loadS hS isS_26 rfl 1 rfl (cs := [.bool p.b1, .slice a1 p.t1.length ac1, .slice a2 p.q1.length ac2, .bool p.b2, .slice a3 p.t2.length ac3, .slice a4 p.q2.length ac4]) rfl rfl) ?_
  intro a hA
  rcases Bool.eq_false_or_eq_true (soundQ p) with hb7 | hb7
  · refine seq_call hA rfl rfl rfl (enters_func  rfl rfl (fun w => by kernel_rfl)) (soundQ_any (show Nm _ _ a1 ac1 a2 ac2 a3 ac3 a4 ac4 from ⟨⟨(hS.rd 7 rfl), ha.s1.nil, ha.s1.cap⟩, ⟨(hS.rd 6 rfl), ha.s2.nil, ha.s2.cap⟩, ⟨(hS.rd 5 rfl), ha.s3.nil, ha.s3.cap⟩, ⟨(hS.rd 4 rfl), ha.s4.nil, ha.s4.cap⟩⟩) hl hb7) ?_
    rintro _ w9 ⟨rfl, hb8⟩
    replace hS := hS.call hb8
    refine ⟨_, rfl, ?_⟩
    intro a hA
    refine seq_do hA rfl rfl rfl (does_move rfl) ?_
    intro a hA
    refine seq_do (v := .agg #[.bool q.b1, .slice u1 q.t1.length uc1, .slice u2 q.q1.length uc2, .bool q.b2, .slice u3 q.t2.length uc3, .slice u4 q.q2.length uc4]) hA rfl rfl rfl (does_loadS hS isS_26 rfl 0 rfl (cs := [.bool q.b1, .slice u1 q.t1.length uc1, .slice u2 q.q1.length uc2, .bool q.b2, .slice u3 q.t2.length uc3, .slice u4 q.q2.length uc4]) rfl rfl) ?_
    intro a hA
    rcases Bool.eq_false_or_eq_true (soundQ q) with hb10 | hb10
    · refine seq_call hA rfl rfl rfl (enters_func  rfl rfl (fun w => by kernel_rfl)) (soundQ_any (show Nm _ _ u1 uc1 u2 uc2 u3 uc3 u4 uc4 from ⟨⟨(hS.rd 3 rfl), hu.s1.nil, hu.s1.cap⟩, ⟨(hS.rd 2 rfl), hu.s2.nil, hu.s2.cap⟩, ⟨(hS.rd 1 rfl), hu.s3.nil, hu.s3.cap⟩, ⟨(hS.rd 0 rfl), hu.s4.nil, hu.s4.cap⟩⟩) hm hb10) ?_
      rintro _ w12 ⟨rfl, hb11⟩
      replace hS := hS.call hb11
      refine ⟨_, rfl, ?_⟩
      intro a hA
      refine seq_do (v := .bool true) hA rfl rfl rfl (does_pick rfl rfl rfl rfl) ?_
      intro a hA
      refine seq_do hA rfl rfl rfl (does_move rfl) ?_
      intro a hA
      refine seq_do (v := .pointer (some ⟨g2, 0, none⟩)) hA rfl rfl rfl (does_field fld_26_0 rfl rfl) ?_
      intro a hA
      refine seq_do (v := .agg #[.bool p.b1, .slice a1 p.t1.length ac1, .slice a2 p.q1.length ac2]) hA rfl rfl rfl (does_loadS hS isS_24 rfl 1 rfl (cs := [.bool p.b1, .slice a1 p.t1.length ac1, .slice a2 p.q1.length ac2]) rfl rfl) ?_
      intro a hA
      refine seq_do (v := .pointer (some ⟨g4, 0, none⟩)) hA rfl rfl rfl (does_field fld_26_0 rfl rfl) ?_
      intro a hA
      refine seq_do (v := .agg #[.bool q.b1, .slice u1 q.t1.length uc1, .slice u2 q.q1.length uc2]) hA rfl rfl rfl (does_loadS hS isS_24 rfl 0 rfl (cs := [.bool q.b1, .slice u1 q.t1.length uc1, .slice u2 q.q1.length uc2]) rfl rfl) ?_
      intro a hA
      rcases Bool.eq_false_or_eq_true (sameF p.b1 p.t1 p.q1 q.b1 q.t1 q.q1) with hb13 | hb13
      · refine seq_call hA rfl rfl rfl (enters_func  rfl rfl (fun w => by kernel_rfl)) (sameFr_any ⟨(hS.rd 7 rfl), ha.s1.nil, ha.s1.cap⟩ ⟨(hS.rd 6 rfl), ha.s2.nil, ha.s2.cap⟩ ⟨(hS.rd 3 rfl), hu.s1.nil, hu.s1.cap⟩ ⟨(hS.rd 2 rfl), hu.s2.nil, hu.s2.cap⟩ hl.l1 hl.l2 hm.l1 hm.l2 hb13) ?_
        rintro _ w15 ⟨rfl, hb14⟩
        replace hS := hS.call hb14
        refine ⟨_, rfl, ?_⟩
        intro a hA
        refine seq_do (v := .bool true) hA rfl rfl rfl (does_pick rfl rfl rfl rfl) ?_
        intro a hA
        refine seq_do hA rfl rfl rfl (does_move rfl) ?_
        intro a hA
        refine seq_do (v := .pointer (some ⟨g2, 3, none⟩)) hA rfl rfl rfl (does_field fld_26_1 rfl rfl) ?_
        intro a hA
        refine seq_do (v := .agg #[.bool p.b2, .slice a3 p.t2.length ac3, .slice a4 p.q2.length ac4]) hA rfl rfl rfl (does_loadS hS isS_24 rfl 1 rfl (cs := [.bool p.b2, .slice a3 p.t2.length ac3, .slice a4 p.q2.length ac4]) rfl rfl) ?_
        intro a hA
        refine seq_do (v := .pointer (some ⟨g4, 3, none⟩)) hA rfl rfl rfl (does_field fld_26_1 rfl rfl) ?_
        intro a hA
        refine seq_do (v := .agg #[.bool q.b2, .slice u3 q.t2.length uc3, .slice u4 q.q2.length uc4]) hA rfl rfl rfl (does_loadS hS isS_24 rfl 0 rfl (cs := [.bool q.b2, .slice u3 q.t2.length uc3, .slice u4 q.q2.length uc4]) rfl rfl) ?_
        intro a hA
        rcases Bool.eq_false_or_eq_true (sameF p.b2 p.t2 p.q2 q.b2 q.t2 q.q2) with hb16 | hb16
        · refine seq_call hA rfl rfl rfl (enters_func  rfl rfl (fun w => by kernel_rfl)) (sameFr_any ⟨(hS.rd 5 rfl), ha.s3.nil, ha.s3.cap⟩ ⟨(hS.rd 4 rfl), ha.s4.nil, ha.s4.cap⟩ ⟨(hS.rd 1 rfl), hu.s3.nil, hu.s3.cap⟩ ⟨(hS.rd 0 rfl), hu.s4.nil, hu.s4.cap⟩ hl.l3 hl.l4 hm.l3 hm.l4 hb16) ?_
          rintro _ w18 ⟨rfl, hb17⟩
          replace hS := hS.call hb17
          refine ⟨_, rfl, ?_⟩
          intro a hA
          refine seq_do (v := .bool true) hA rfl rfl rfl (does_pick rfl rfl rfl rfl) ?_
          intro a hA
          refine seq_do hA rfl rfl rfl (does_assign rfl) ?_
          intro a hA
          refine seq_end ?_
          refine hK6 _ _ ?_
          refine wp_ret ?_
          refine hret _ _ ?_
          refine ends (v := .bool true) hA rfl (.cons (res_tmp rfl) .nil) rfl ?_
          subst hr
          exact ⟨by unfold sameQ; rw [hb7, hb10, hb13, hb16]; try rfl, hS.bel⟩
        · refine seq_call hA rfl rfl rfl (enters_func  rfl rfl (fun w => by kernel_rfl)) (sameFr_any ⟨(hS.rd 5 rfl), ha.s3.nil, ha.s3.cap⟩ ⟨(hS.rd 4 rfl), ha.s4.nil, ha.s4.cap⟩ ⟨(hS.rd 1 rfl), hu.s3.nil, hu.s3.cap⟩ ⟨(hS.rd 0 rfl), hu.s4.nil, hu.s4.cap⟩ hl.l3 hl.l4 hm.l3 hm.l4 hb16) ?_
          rintro _ w20 ⟨rfl, hb19⟩
          replace hS := hS.call hb19
          refine ⟨_, rfl, ?_⟩
          intro a hA
          refine seq_do (v := .bool false) hA rfl rfl rfl (does_pick rfl rfl rfl rfl) ?_
          intro a hA
          refine seq_do hA rfl rfl rfl (does_assign rfl) ?_
          intro a hA
          refine seq_end ?_
          refine hK6 _ _ ?_
          refine wp_ret ?_
          refine hret _ _ ?_
          refine ends (v := .bool false) hA rfl (.cons (res_tmp rfl) .nil) rfl ?_
          subst hr
          exact ⟨by unfold sameQ; rw [hb7, hb10, hb13, hb16]; try rfl, hS.bel⟩
      · refine seq_call hA rfl rfl rfl (enters_func  rfl rfl (fun w => by kernel_rfl)) (sameFr_any ⟨(hS.rd 7 rfl), ha.s1.nil, ha.s1.cap⟩ ⟨(hS.rd 6 rfl), ha.s2.nil, ha.s2.cap⟩ ⟨(hS.rd 3 rfl), hu.s1.nil, hu.s1.cap⟩ ⟨(hS.rd 2 rfl), hu.s2.nil, hu.s2.cap⟩ hl.l1 hl.l2 hm.l1 hm.l2 hb13) ?_
        rintro _ w22 ⟨rfl, hb21⟩
        replace hS := hS.call hb21
        refine ⟨_, rfl, ?_⟩
        intro a hA
        refine seq_do (v := .bool false) hA rfl rfl rfl (does_pick rfl rfl rfl rfl) ?_
        intro a hA
        refine seq_do hA rfl rfl rfl (does_move rfl) ?_
        intro a hA
        refine seq_skip hA rfl rfl rfl ?_
        intro a hA
        refine seq_skip hA rfl rfl rfl ?_
        intro a hA
        refine seq_skip hA rfl rfl rfl ?_
        intro a hA
        refine seq_skip hA rfl rfl rfl ?_
        intro a hA
        refine seq_skip hA rfl rfl rfl ?_
        intro a hA
        refine seq_do (v := .bool false) hA rfl rfl rfl (does_pick rfl rfl rfl rfl) ?_
        intro a hA
        refine seq_do hA rfl rfl rfl (does_assign rfl) ?_
        intro a hA
        refine seq_end ?_
        refine hK6 _ _ ?_
        refine wp_ret ?_
        refine hret _ _ ?_
        refine ends (v := .bool false) hA rfl (.cons (res_tmp rfl) .nil) rfl ?_
        subst hr
        exact ⟨by unfold sameQ; rw [hb7, hb10, hb13]; try rfl, hS.bel⟩
    · refine seq_call hA rfl rfl rfl (enters_func  rfl rfl (fun w => by kernel_rfl)) (soundQ_any (show Nm _ _ u1 uc1 u2 uc2 u3 uc3 u4 uc4 from ⟨⟨(hS.rd 3 rfl), hu.s1.nil, hu.s1.cap⟩, ⟨(hS.rd 2 rfl), hu.s2.nil, hu.s2.cap⟩, ⟨(hS.rd 1 rfl), hu.s3.nil, hu.s3.cap⟩, ⟨(hS.rd 0 rfl), hu.s4.nil, hu.s4.cap⟩⟩) hm hb10) ?_
      rintro _ w24 ⟨rfl, hb23⟩
      replace hS := hS.call hb23
      refine ⟨_, rfl, ?_⟩
      intro a hA
      refine seq_do (v := .bool false) hA rfl rfl rfl (does_pick rfl rfl rfl rfl) ?_
      intro a hA
      refine seq_do hA rfl rfl rfl (does_move rfl) ?_
      intro a hA
      refine seq_skip hA rfl rfl rfl ?_
      intro a hA
      refine seq_skip hA rfl rfl rfl ?_
      intro a hA
      refine seq_skip hA rfl rfl rfl ?_
      intro a hA
      refine seq_skip hA rfl rfl rfl ?_
      intro a hA
      refine seq_skip hA rfl rfl rfl ?_
      intro a hA
      refine seq_do (v := .bool false) hA rfl rfl rfl (does_pick rfl rfl rfl rfl) ?_
      intro a hA
      refine seq_do hA rfl rfl rfl (does_move rfl) ?_
      intro a hA
      refine seq_skip hA rfl rfl rfl ?_
      intro a hA
      refine seq_skip hA rfl rfl rfl ?_
      intro a hA
      refine seq_skip hA rfl rfl rfl ?_
      intro a hA
      refine seq_skip hA rfl rfl rfl ?_
      intro a hA
      refine seq_skip hA rfl rfl rfl ?_
      intro a hA
      refine seq_do (v := .bool false) hA rfl rfl rfl (does_pick rfl rfl rfl rfl) ?_
      intro a hA
      refine seq_do hA rfl rfl rfl (does_assign rfl) ?_
      intro a hA
      refine seq_end ?_
      refine hK6 _ _ ?_
      refine wp_ret ?_
      refine hret _ _ ?_
      refine ends (v := .bool false) hA rfl (.cons (res_tmp rfl) .nil) rfl ?_
      subst hr
      exact ⟨by unfold sameQ; rw [hb7, hb10]; try rfl, hS.bel⟩
  · refine seq_call hA rfl rfl rfl (enters_func  rfl rfl (fun w => by kernel_rfl)) (soundQ_any (show Nm _ _ a1 ac1 a2 ac2 a3 ac3 a4 ac4 from ⟨⟨(hS.rd 7 rfl), ha.s1.nil, ha.s1.cap⟩, ⟨(hS.rd 6 rfl), ha.s2.nil, ha.s2.cap⟩, ⟨(hS.rd 5 rfl), ha.s3.nil, ha.s3.cap⟩, ⟨(hS.rd 4 rfl), ha.s4.nil, ha.s4.cap⟩⟩) hl hb7) ?_
    rintro _ w26 ⟨rfl, hb25⟩
    replace hS := hS.call hb25
    refine ⟨_, rfl, ?_⟩
    intro a hA
    refine seq_do hA rfl rfl rfl (does_move rfl) ?_
    intro a hA
    refine seq_skip hA rfl rfl rfl ?_
    intro a hA
    refine seq_skip hA rfl rfl rfl ?_
    intro a hA
    refine seq_do (v := .bool false) hA rfl rfl rfl (does_pick rfl rfl rfl rfl) ?_
    intro a hA
    refine seq_do hA rfl rfl rfl (does_move rfl) ?_
    intro a hA
    refine seq_skip hA rfl rfl rfl ?_
    intro a hA
    refine seq_skip hA rfl rfl rfl ?_
    intro a hA
    refine seq_skip hA rfl rfl rfl ?_
    intro a hA
    refine seq_skip hA rfl rfl rfl ?_
    intro a hA
    refine seq_skip hA rfl rfl rfl ?_
    intro a hA
    refine seq_do (v := .bool false) hA rfl rfl rfl (does_pick rfl rfl rfl rfl) ?_
    intro a hA
    refine seq_do hA rfl rfl rfl (does_move rfl) ?_
    intro a hA
    refine seq_skip hA rfl rfl rfl ?_
    intro a hA
    refine seq_skip hA rfl rfl rfl ?_
    intro a hA
    refine seq_skip hA rfl rfl rfl ?_
    intro a hA
    refine seq_skip hA rfl rfl rfl ?_
    intro a hA
    refine seq_skip hA rfl rfl rfl ?_
    intro a hA
    refine seq_do (v := .bool false) hA rfl rfl rfl (does_pick rfl rfl rfl rfl) ?_
    intro a hA
    refine seq_do hA rfl rfl rfl (does_assign rfl) ?_
    intro a hA
    refine seq_end ?_
    refine hK6 _ _ ?_
    refine wp_ret ?_
    refine hret _ _ ?_
    refine ends (v := .bool false) hA rfl (.cons (res_tmp rfl) .nil) rfl ?_
    subst hr
    exact ⟨by unfold sameQ; rw [hb7]; try rfl, hS.bel⟩
theorem alike_any {w : World} {q : Q6} {a1 a2 a3 a4 : Option Addr} {ac1 ac2 ac3 ac4 : Nat} (ha : Nm w q a1 ac1 a2 ac2 a3 ac3 a4 ac4) (hl : LenQ q) {u1 u2 u3 u4 : Option Addr} {uc1 uc2 uc3 uc4 : Nat} (hu : Nm w q u1 uc1 u2 uc2 u3 uc3 u4 uc4) : Calls Try.prog 13 #[numV q a1 ac1 a2 ac2 a3 ac3 a4 ac4, numV q u1 uc1 u2 uc2 u3 uc3 u4 uc4] w fun e w' => e = .returned (.bool true) ∧ Below w.heap.size w w' := by
  have hS : St w w [] [(u4, q.q2), (u3, q.t2), (u2, q.q1), (u1, q.t1), (a4, q.q2), (a3, q.t2), (a2, q.q1), (a1, q.t1)] [] := ((((((((St.start w).addR ha.s1.rd).addR ha.s2.rd).addR ha.s3.rd).addR ha.s4.rd).addR hu.s1.rd).addR hu.s2.rd).addR hu.s3.rd).addR hu.s4.rd
  refine walk_of (l := [(0, .agg #[.bool q.b1, .slice a1 q.t1.length ac1, .slice a2 q.q1.length ac2, .bool q.b2, .slice a3 q.t2.length ac3, .slice a4 q.q2.length ac4]), (1, .agg #[.bool q.b1, .slice u1 q.t1.length uc1, .slice u2 q.q1.length uc2, .bool q.b2, .slice u3 q.t2.length uc3, .slice u4 q.q2.length uc4])]) Try.func13 rfl Try.ntmps13 rfl rfl ?_
  intro Q hret hnorm hP a hA
  refine wp_seq_k (fun K1 hK1 => ?_)
  refine wp_region_lit ?_
  refine seq_new (vs := [.bool q.b1, .slice a1 q.t1.length ac1, .slice a2 q.q1.length ac2, .bool q.b2, .slice a3 q.t2.length ac3, .slice a4 q.q2.length ac4]) (t := 26) hA hS rfl rfl rfl (fun g => .pointer (some ⟨g, 0, none⟩)) (does_box rfl rfl) rfl ?_
  intro g2 w3 hS a hA
  refine seq_new (vs := [.bool q.b1, .slice u1 q.t1.length uc1, .slice u2 q.q1.length uc2, .bool q.b2, .slice u3 q.t2.length uc3, .slice u4 q.q2.length uc4]) (t := 26) hA hS rfl rfl rfl (fun g => .pointer (some ⟨g, 0, none⟩)) (does_box rfl rfl) rfl ?_
  intro g4 w5 hS a hA
  refine seq_do hA rfl rfl rfl (does_assign rfl) ?_
  intro a hA
  refine seq_end ?_
  refine hK1 _ _ ?_
  refine wp_seq_k (fun K6 hK6 => ?_)
  refine wp_region_lit ?_
  refine seq_do (v := .pointer (some ⟨g2, 0, none⟩)) hA rfl rfl rfl (does_field fld_26_0 rfl rfl) ?_
  intro a hA
  refine seq_do (v := .agg #[.bool q.b1, .slice a1 q.t1.length ac1, .slice a2 q.q1.length ac2]) hA rfl rfl rfl (does_loadS hS isS_24 rfl 1 rfl (cs := [.bool q.b1, .slice a1 q.t1.length ac1, .slice a2 q.q1.length ac2]) rfl rfl) ?_
  intro a hA
  refine seq_do (v := .pointer (some ⟨g4, 0, none⟩)) hA rfl rfl rfl (does_field fld_26_0 rfl rfl) ?_
  intro a hA
  refine seq_do (v := .agg #[.bool q.b1, .slice u1 q.t1.length uc1, .slice u2 q.q1.length uc2]) hA rfl rfl rfl (does_loadS hS isS_24 rfl 0 rfl (cs := [.bool q.b1, .slice u1 q.t1.length uc1, .slice u2 q.q1.length uc2]) rfl rfl) ?_
  intro a hA
  refine seq_call hA rfl rfl rfl (enters_func  rfl rfl (fun w => by kernel_rfl)) (ratSame_any ⟨(hS.rd 7 rfl), ha.s1.nil, ha.s1.cap⟩ ⟨(hS.rd 6 rfl), ha.s2.nil, ha.s2.cap⟩ ⟨(hS.rd 3 rfl), hu.s1.nil, hu.s1.cap⟩ ⟨(hS.rd 2 rfl), hu.s2.nil, hu.s2.cap⟩ hl.l1 hl.l2 hl.l1 hl.l2 (sameF_refl _ _ _)) ?_
  rintro _ w8 ⟨rfl, hb7⟩
  replace hS := hS.call hb7
  refine ⟨_, rfl, ?_⟩
  intro a hA
  refine seq_do hA rfl rfl rfl (does_move rfl) ?_
  intro a hA
  refine seq_do (v := .pointer (some ⟨g2, 3, none⟩)) hA rfl rfl rfl (does_field fld_26_1 rfl rfl) ?_
  intro a hA
  refine seq_do (v := .agg #[.bool q.b2, .slice a3 q.t2.length ac3, .slice a4 q.q2.length ac4]) hA rfl rfl rfl (does_loadS hS isS_24 rfl 1 rfl (cs := [.bool q.b2, .slice a3 q.t2.length ac3, .slice a4 q.q2.length ac4]) rfl rfl) ?_
  intro a hA
  refine seq_do (v := .pointer (some ⟨g4, 3, none⟩)) hA rfl rfl rfl (does_field fld_26_1 rfl rfl) ?_
  intro a hA
  refine seq_do (v := .agg #[.bool q.b2, .slice u3 q.t2.length uc3, .slice u4 q.q2.length uc4]) hA rfl rfl rfl (does_loadS hS isS_24 rfl 0 rfl (cs := [.bool q.b2, .slice u3 q.t2.length uc3, .slice u4 q.q2.length uc4]) rfl rfl) ?_
  intro a hA
  refine seq_call hA rfl rfl rfl (enters_func  rfl rfl (fun w => by kernel_rfl)) (ratSame_any ⟨(hS.rd 5 rfl), ha.s3.nil, ha.s3.cap⟩ ⟨(hS.rd 4 rfl), ha.s4.nil, ha.s4.cap⟩ ⟨(hS.rd 1 rfl), hu.s3.nil, hu.s3.cap⟩ ⟨(hS.rd 0 rfl), hu.s4.nil, hu.s4.cap⟩ hl.l3 hl.l4 hl.l3 hl.l4 (sameF_refl _ _ _)) ?_
  rintro _ w10 ⟨rfl, hb9⟩
  replace hS := hS.call hb9
  refine ⟨_, rfl, ?_⟩
  intro a hA
  refine seq_do (v := .bool true) hA rfl rfl rfl (does_pick rfl rfl rfl rfl) ?_
  intro a hA
  refine seq_do hA rfl rfl rfl (does_assign rfl) ?_
  intro a hA
  refine seq_end ?_
  refine hK6 _ _ ?_
  refine wp_ret ?_
  refine hret _ _ ?_
  refine ends (v := .bool true) hA rfl (.cons (res_tmp rfl) .nil) rfl ?_
  exact ⟨rfl, hS.bel⟩
theorem awake4_any {w : World} : Calls Try.prog 12 #[] w fun e w' => e = .returned (.bool true) ∧ Below w.heap.size w w' := by
  have hS : St w w [] [] [] := St.start w
  refine walk_of (l := []) Try.func12 rfl Try.ntmps12 rfl rfl ?_
  intro Q hret hnorm hP a hA
  refine wp_seq_k (fun K1 hK1 => ?_)
  refine wp_region_lit ?_
  refine seq_do hA rfl rfl rfl (does_assign rfl) ?_
  intro a hA
  refine seq_end ?_
  refine hK1 _ _ ?_
  refine wp_seq_k (fun K2 hK2 => ?_)
  refine wp_region_lit ?_
  refine seq_call hA rfl rfl rfl (enters_func  rfl rfl (fun w => by kernel_rfl)) ((show Calls Try.prog 34 #[.int .i64 (-1)] _ (AnsV _ (Q6.whole true 1)) from intN_any (k := 1) (by decide) (by decide))) ?_
  rintro _ w6 ⟨p3_1, p3_c1, p3_2, p3_c2, p3_3, p3_c3, p3_4, p3_c4, rfl, hn4, hb5⟩
  replace hS := hS.call hb5
  replace hS := hS.addR hn4.s1.rd
  replace hS := hS.addR hn4.s2.rd
  replace hS := hS.addR hn4.s3.rd
  replace hS := hS.addR hn4.s4.rd
  refine ⟨_, rfl, ?_⟩
  intro a hA
  refine seq_call hA rfl rfl rfl (enters_func  rfl rfl (fun w => by kernel_rfl)) ((show Calls Try.prog 34 #[.int .i64 (5)] _ (AnsV _ (Q6.whole false 5)) from intP_any (k := 5) (by decide))) ?_
  rintro _ w10 ⟨p7_1, p7_c1, p7_2, p7_c2, p7_3, p7_c3, p7_4, p7_c4, rfl, hn8, hb9⟩
  replace hS := hS.call hb9
  replace hS := hS.addR hn8.s1.rd
  replace hS := hS.addR hn8.s2.rd
  replace hS := hS.addR hn8.s3.rd
  replace hS := hS.addR hn8.s4.rd
  refine ⟨_, rfl, ?_⟩
  intro a hA
  refine seq_call hA rfl rfl rfl (enters_func  rfl rfl (fun w => by kernel_rfl)) ((awake_and ▸ andQ_any (p := Q6.whole true 1) (q := Q6.whole false 5) (show Nm _ _ p3_1 p3_c1 p3_2 p3_c2 p3_3 p3_c3 p3_4 p3_c4 from ⟨⟨(hS.rd 7 rfl), hn4.s1.nil, hn4.s1.cap⟩, ⟨(hS.rd 6 rfl), hn4.s2.nil, hn4.s2.cap⟩, ⟨(hS.rd 5 rfl), hn4.s3.nil, hn4.s3.cap⟩, ⟨(hS.rd 4 rfl), hn4.s4.nil, hn4.s4.cap⟩⟩) (lenQ_whole one_len) (show Nm _ _ p7_1 p7_c1 p7_2 p7_c2 p7_3 p7_c3 p7_4 p7_c4 from ⟨⟨(hS.rd 3 rfl), hn8.s1.nil, hn8.s1.cap⟩, ⟨(hS.rd 2 rfl), hn8.s2.nil, hn8.s2.cap⟩, ⟨(hS.rd 1 rfl), hn8.s3.nil, hn8.s3.cap⟩, ⟨(hS.rd 0 rfl), hn8.s4.nil, hn8.s4.cap⟩⟩) (lenQ_whole five_len))) ?_
  rintro _ w14 ⟨p11_1, p11_c1, p11_2, p11_c2, p11_3, p11_c3, p11_4, p11_c4, rfl, hn12, hb13⟩
  replace hS := hS.call hb13
  replace hS := hS.addR hn12.s1.rd
  replace hS := hS.addR hn12.s2.rd
  replace hS := hS.addR hn12.s3.rd
  replace hS := hS.addR hn12.s4.rd
  refine ⟨_, rfl, ?_⟩
  intro a hA
  refine seq_do hA rfl rfl rfl (does_move rfl) ?_
  intro a hA
  refine seq_do (v := .agg #[.bool false, .slice p11_1 ((words 5).length) p11_c1, .slice p11_2 1 p11_c2, .bool false, .slice p11_3 0 p11_c3, .slice p11_4 1 p11_c4]) hA rfl rfl rfl (does_extract (vs := [.agg #[.bool false, .slice p11_1 ((words 5).length) p11_c1, .slice p11_2 1 p11_c2, .bool false, .slice p11_3 0 p11_c3, .slice p11_4 1 p11_c4], .int .i64 0]) rfl rfl) ?_
  intro a hA
  refine seq_do (v := .int .i64 0) hA rfl rfl rfl (does_extract (vs := [.agg #[.bool false, .slice p11_1 ((words 5).length) p11_c1, .slice p11_2 1 p11_c2, .bool false, .slice p11_3 0 p11_c3, .slice p11_4 1 p11_c4], .int .i64 0]) rfl rfl) ?_
  intro a hA
  refine seq_new (vs := [.bool false, .slice none 0 0, .slice none 0 0, .bool false, .slice none 0 0, .slice none 0 0]) (t := 26) hA hS rfl rfl rfl (fun g => .pointer (some ⟨g, 0, none⟩)) (does_alloc (z := .agg #[.bool false, .slice none 0 0, .slice none 0 0, .bool false, .slice none 0 0, .slice none 0 0]) (by kernel_rfl) rfl) rfl ?_
  intro g15 w16 hS a hA
  refine seq_store (us := [.bool false, .slice p11_1 ((words 5).length) p11_c1, .slice p11_2 1 p11_c2, .bool false, .slice p11_3 0 p11_c3, .slice p11_4 1 p11_c4]) hA hS rfl rfl (sets_store (cs := [.bool false, .slice p11_1 ((words 5).length) p11_c1, .slice p11_2 1 p11_c2, .bool false, .slice p11_3 0 p11_c3, .slice p11_4 1 p11_c4]) rfl rfl rfl (by kernel_rfl) hS 0 rfl rfl rfl) 0 rfl rfl rfl rfl ?_
  intro w17 hS
  refine seq_do hA rfl rfl rfl (does_assign rfl) ?_
  intro a hA
  refine seq_end ?_
  refine hK2 _ _ ?_
  refine wp_seq_k (fun K18 hK18 => ?_)
  refine wp_draw (S := fun w1 => St w w1 [(g15, [.bool false, .slice p11_1 ((words 5).length) p11_c1, .slice p11_2 1 p11_c2, .bool false, .slice p11_3 0 p11_c3, .slice p11_4 1 p11_c4])] [(p11_4, [1]), (p11_3, []), (p11_2, [1]), (p11_1, words 5), (p7_4, [1]), (p7_3, []), (p7_2, [1]), (p7_1, words 5), (p3_4, [1]), (p3_3, []), (p3_2, [1]), (p3_1, words 1)] []) (by kernel_rfl) ?_
  replace hS := hS.drew
  refine any_take hA 0 rfl rfl rfl rfl (by kernel_rfl) (by kernel_rfl) (by kernel_rfl) (fun c a w h => hP c a _ _ w h) (hS.part (.cons_cons _ .slnil) ⟨⟨0, rfl⟩, ⟨⟨1, rfl⟩, ⟨⟨2, rfl⟩, ⟨⟨3, rfl⟩, ⟨⟨4, rfl⟩, ⟨⟨5, rfl⟩, ⟨⟨6, rfl⟩, ⟨⟨7, rfl⟩, ⟨⟨8, rfl⟩, ⟨⟨9, rfl⟩, ⟨⟨10, rfl⟩, ⟨⟨11, rfl⟩, trivial⟩⟩⟩⟩⟩⟩⟩⟩⟩⟩⟩⟩ .slnil) (fun w1 hS => does_move rfl) ?_
  intro a hA
  refine any_take (v := .bool true) hA 1 rfl rfl rfl rfl (by kernel_rfl) (by kernel_rfl) (by kernel_rfl) (fun c a w h => hP c a _ _ w h) (hS.part (.cons_cons _ .slnil) ⟨⟨0, rfl⟩, ⟨⟨1, rfl⟩, ⟨⟨2, rfl⟩, ⟨⟨3, rfl⟩, ⟨⟨4, rfl⟩, ⟨⟨5, rfl⟩, ⟨⟨6, rfl⟩, ⟨⟨7, rfl⟩, ⟨⟨8, rfl⟩, ⟨⟨9, rfl⟩, ⟨⟨10, rfl⟩, ⟨⟨11, rfl⟩, trivial⟩⟩⟩⟩⟩⟩⟩⟩⟩⟩⟩⟩ .slnil) (fun w1 hS => does_bin rfl rfl (fun w => by kernel_rfl)) ?_
  intro a hA
  refine any_take hA 2 rfl rfl rfl rfl (by kernel_rfl) (by kernel_rfl) (by kernel_rfl) (fun c a w h => hP c a _ _ w h) (hS.part (.cons_cons _ .slnil) ⟨⟨0, rfl⟩, ⟨⟨1, rfl⟩, ⟨⟨2, rfl⟩, ⟨⟨3, rfl⟩, ⟨⟨4, rfl⟩, ⟨⟨5, rfl⟩, ⟨⟨6, rfl⟩, ⟨⟨7, rfl⟩, ⟨⟨8, rfl⟩, ⟨⟨9, rfl⟩, ⟨⟨10, rfl⟩, ⟨⟨11, rfl⟩, trivial⟩⟩⟩⟩⟩⟩⟩⟩⟩⟩⟩⟩ .slnil) (fun w1 hS => does_move rfl) ?_
  intro a hA
  refine any_take (v := .agg #[.bool false, .slice p11_1 ((words 5).length) p11_c1, .slice p11_2 1 p11_c2, .bool false, .slice p11_3 0 p11_c3, .slice p11_4 1 p11_c4]) hA 3 rfl rfl rfl rfl (by kernel_rfl) (by kernel_rfl) (by kernel_rfl) (fun c a w h => hP c a _ _ w h) (hS.part (.cons_cons _ .slnil) ⟨⟨0, rfl⟩, ⟨⟨1, rfl⟩, ⟨⟨2, rfl⟩, ⟨⟨3, rfl⟩, ⟨⟨4, rfl⟩, ⟨⟨5, rfl⟩, ⟨⟨6, rfl⟩, ⟨⟨7, rfl⟩, ⟨⟨8, rfl⟩, ⟨⟨9, rfl⟩, ⟨⟨10, rfl⟩, ⟨⟨11, rfl⟩, trivial⟩⟩⟩⟩⟩⟩⟩⟩⟩⟩⟩⟩ .slnil) (fun w1 hS => does_loadS hS isS_26 rfl 0 rfl (cs := [.bool false, .slice p11_1 ((words 5).length) p11_c1, .slice p11_2 1 p11_c2, .bool false, .slice p11_3 0 p11_c3, .slice p11_4 1 p11_c4]) rfl rfl) ?_
  intro a hA
  refine any_one (by kernel_rfl) (op_call hA 4 rfl rfl rfl rfl (enters_func  rfl rfl (fun w => by kernel_rfl)) ((show Calls Try.prog 34 #[.int .i64 (5)] _ (AnsV _ (Q6.whole false 5)) from intP_any (k := 5) (by decide))) ?_)
  rintro _ w22 ⟨p19_1, p19_c1, p19_2, p19_c2, p19_3, p19_c3, p19_4, p19_c4, rfl, hn20, hb21⟩
  replace hS := hS.call hb21
  replace hS := hS.addR hn20.s1.rd
  replace hS := hS.addR hn20.s2.rd
  replace hS := hS.addR hn20.s3.rd
  replace hS := hS.addR hn20.s4.rd
  refine ⟨_, rfl, (hS.part (.cons_cons _ .slnil) ⟨⟨4, rfl⟩, ⟨⟨5, rfl⟩, ⟨⟨6, rfl⟩, ⟨⟨7, rfl⟩, ⟨⟨8, rfl⟩, ⟨⟨9, rfl⟩, ⟨⟨10, rfl⟩, ⟨⟨11, rfl⟩, ⟨⟨12, rfl⟩, ⟨⟨13, rfl⟩, ⟨⟨14, rfl⟩, ⟨⟨15, rfl⟩, trivial⟩⟩⟩⟩⟩⟩⟩⟩⟩⟩⟩⟩ .slnil), ?_⟩
  intro a hA
  refine any_one (by kernel_rfl) (op_call hA 5 rfl rfl rfl rfl (enters_func  rfl rfl (fun w => by kernel_rfl)) (sameQ_any (p := Q6.whole false 5) (q := Q6.whole false 5) (show Nm _ _ p11_1 p11_c1 p11_2 p11_c2 p11_3 p11_c3 p11_4 p11_c4 from ⟨⟨(hS.rd 7 rfl), hn12.s1.nil, hn12.s1.cap⟩, ⟨(hS.rd 6 rfl), hn12.s2.nil, hn12.s2.cap⟩, ⟨(hS.rd 5 rfl), hn12.s3.nil, hn12.s3.cap⟩, ⟨(hS.rd 4 rfl), hn12.s4.nil, hn12.s4.cap⟩⟩) (lenQ_whole five_len) (show Nm _ _ p19_1 p19_c1 p19_2 p19_c2 p19_3 p19_c3 p19_4 p19_c4 from ⟨⟨(hS.rd 3 rfl), hn20.s1.nil, hn20.s1.cap⟩, ⟨(hS.rd 2 rfl), hn20.s2.nil, hn20.s2.cap⟩, ⟨(hS.rd 1 rfl), hn20.s3.nil, hn20.s3.cap⟩, ⟨(hS.rd 0 rfl), hn20.s4.nil, hn20.s4.cap⟩⟩) (lenQ_whole five_len) (sameQ_self (soundQ_whole five_len (by decide)))) ?_)
  rintro _ w24 ⟨rfl, hb23⟩
  replace hS := hS.call hb23
  refine ⟨_, rfl, (hS.part (.cons_cons _ .slnil) ⟨⟨4, rfl⟩, ⟨⟨5, rfl⟩, ⟨⟨6, rfl⟩, ⟨⟨7, rfl⟩, ⟨⟨8, rfl⟩, ⟨⟨9, rfl⟩, ⟨⟨10, rfl⟩, ⟨⟨11, rfl⟩, ⟨⟨12, rfl⟩, ⟨⟨13, rfl⟩, ⟨⟨14, rfl⟩, ⟨⟨15, rfl⟩, trivial⟩⟩⟩⟩⟩⟩⟩⟩⟩⟩⟩⟩ .slnil), ?_⟩
  intro a hA
  refine any_take (v := .bool true) hA 6 rfl rfl rfl rfl (by kernel_rfl) (by kernel_rfl) (by kernel_rfl) (fun c a w h => hP c a _ _ w h) (hS.part (.cons_cons _ .slnil) ⟨⟨4, rfl⟩, ⟨⟨5, rfl⟩, ⟨⟨6, rfl⟩, ⟨⟨7, rfl⟩, ⟨⟨8, rfl⟩, ⟨⟨9, rfl⟩, ⟨⟨10, rfl⟩, ⟨⟨11, rfl⟩, ⟨⟨12, rfl⟩, ⟨⟨13, rfl⟩, ⟨⟨14, rfl⟩, ⟨⟨15, rfl⟩, trivial⟩⟩⟩⟩⟩⟩⟩⟩⟩⟩⟩⟩ .slnil) (fun w1 hS => does_pick rfl rfl rfl rfl) ?_
  intro a hA
  refine any_take hA 7 rfl rfl rfl rfl (by kernel_rfl) (by kernel_rfl) (by kernel_rfl) (fun c a w h => hP c a _ _ w h) (hS.part (.cons_cons _ .slnil) ⟨⟨4, rfl⟩, ⟨⟨5, rfl⟩, ⟨⟨6, rfl⟩, ⟨⟨7, rfl⟩, ⟨⟨8, rfl⟩, ⟨⟨9, rfl⟩, ⟨⟨10, rfl⟩, ⟨⟨11, rfl⟩, ⟨⟨12, rfl⟩, ⟨⟨13, rfl⟩, ⟨⟨14, rfl⟩, ⟨⟨15, rfl⟩, trivial⟩⟩⟩⟩⟩⟩⟩⟩⟩⟩⟩⟩ .slnil) (fun w1 hS => does_assign rfl) ?_
  intro a hA
  refine any_end (by kernel_rfl) ?_
  refine hK18 _ _ ?_
  refine wp_ret ?_
  refine hret _ _ ?_
  refine ends (v := .bool true) hA rfl (.cons (res_tmp rfl) .nil) rfl ?_
  exact ⟨rfl, hS.bel⟩
end Go.Proofs.Yteghiinbafbokaa
namespace Go.Proofs.Yteghiinbafbokaa
open Go.RowKit
set_option linter.unusedVariables false
set_option linter.unusedSimpArgs false
set_option maxRecDepth 100000

theorem lenQ_big (b : Bool) (z : Nat) : LenQ (bigS b z).1 := by
  unfold bigS
  split
  · exact lenQ_whole (by assumption)
  · exact ⟨by decide, by decide, by decide, by decide⟩
theorem lenQ_zero : LenQ Q6.zero := ⟨by decide, by decide, by decide, by decide⟩
theorem lenQ_shift (q : Q6) (n : Int) : LenQ (shiftQ q n).1 := by
  unfold shiftQ
  split
  · split
    · exact lenQ_zero
    · split <;> exact lenQ_big _ _
  · exact lenQ_zero
theorem shiftP_any {w : World} {q : Q6} {a1 a2 a3 a4 : Option Addr} {ac1 ac2 ac3 ac4 : Nat} (ha : Nm w q a1 ac1 a2 ac2 a3 ac3 a4 ac4) (hl : LenQ q) {n : Int} : Calls Try.prog 14 #[numV q a1 ac1 a2 ac2 a3 ac3 a4 ac4, .int .i64 n] w (AnsN w (shiftQ q n)) := by
  rcases want1_cases q with ⟨hw, h1⟩ | ⟨hw, _⟩
  · obtain ⟨b, x, rfl, hx, hb⟩ := wholeOf ha h1
    exact shiftW_any ha hl hw hx hb
  · exact shiftE_any ha hl hw
theorem shiftR_any {w : World} {q : Q6} {a1 a2 a3 a4 : Option Addr} {ac1 ac2 ac3 ac4 : Nat} (ha : Nm w q a1 ac1 a2 ac2 a3 ac3 a4 ac4) (hl : LenQ q) {n : Int} : Calls Try.prog 15 #[numV q a1 ac1 a2 ac2 a3 ac3 a4 ac4, .int .i64 n] w (AnsN w (shiftQ q n)) := by
  rcases want1_cases q with ⟨hw, h1⟩ | ⟨hw, _⟩
  · obtain ⟨b, x, rfl, hx, hb⟩ := wholeOf ha h1
    exact rshiftW_any ha hl hw hx hb
  · exact rshiftE_any ha hl hw
theorem lengthP_any {w : World} {q : Q6} {a1 a2 a3 a4 : Option Addr} {ac1 ac2 ac3 ac4 : Nat} (ha : Nm w q a1 ac1 a2 ac2 a3 ac3 a4 ac4) (hl : LenQ q)  : Calls Try.prog 18 #[numV q a1 ac1 a2 ac2 a3 ac3 a4 ac4] w (AnsII w (lengthQ q)) := by
  rcases want1_cases q with ⟨hw, h1⟩ | ⟨hw, _⟩
  · obtain ⟨b, x, rfl, hx, hb⟩ := wholeOf ha h1
    exact lengthPW_any ha hl hw hx hb
  · exact lengthPE_any ha hl hw
theorem countP_any {w : World} {q : Q6} {a1 a2 a3 a4 : Option Addr} {ac1 ac2 ac3 ac4 : Nat} (ha : Nm w q a1 ac1 a2 ac2 a3 ac3 a4 ac4) (hl : LenQ q)  : Calls Try.prog 16 #[numV q a1 ac1 a2 ac2 a3 ac3 a4 ac4] w (AnsII w (countQ q)) := by
  rcases want1_cases q with ⟨hw, h1⟩ | ⟨hw, _⟩
  · obtain ⟨b, x, rfl, hx, hb⟩ := wholeOf ha h1
    exact countPW_any ha hl hw hx hb
  · exact countPE_any ha hl hw
theorem lengthR_any {w : World} {q : Q6} {a1 a2 a3 a4 : Option Addr} {ac1 ac2 ac3 ac4 : Nat} (ha : Nm w q a1 ac1 a2 ac2 a3 ac3 a4 ac4) (hl : LenQ q)  : Calls Try.prog 19 #[numV q a1 ac1 a2 ac2 a3 ac3 a4 ac4] w (AnsII w (lengthQ q)) := by
  rcases want1_cases q with ⟨hw, h1⟩ | ⟨hw, _⟩
  · obtain ⟨b, x, rfl, hx, hb⟩ := wholeOf ha h1
    exact lengthRW_any ha hl hw hx hb
  · exact lengthRE_any ha hl hw
theorem countR_any {w : World} {q : Q6} {a1 a2 a3 a4 : Option Addr} {ac1 ac2 ac3 ac4 : Nat} (ha : Nm w q a1 ac1 a2 ac2 a3 ac3 a4 ac4) (hl : LenQ q)  : Calls Try.prog 17 #[numV q a1 ac1 a2 ac2 a3 ac3 a4 ac4] w (AnsII w (countQ q)) := by
  rcases want1_cases q with ⟨hw, h1⟩ | ⟨hw, _⟩
  · obtain ⟨b, x, rfl, hx, hb⟩ := wholeOf ha h1
    exact countRW_any ha hl hw hx hb
  · exact countRE_any ha hl hw
theorem bitsShifts_any {w : World} {q : Q6} {a1 a2 a3 a4 : Option Addr} {ac1 ac2 ac3 ac4 : Nat} (ha : Nm w q a1 ac1 a2 ac2 a3 ac3 a4 ac4) (hl : LenQ q) {n : Int} (n0 : -9223372036854775808 ≤ n) (n1 : n ≤ 9223372036854775807) : Calls Try.prog 4 #[numV q a1 ac1 a2 ac2 a3 ac3 a4 ac4, .int .i64 n] w fun e w' => e = .returned (.bool true) ∧ Below w.heap.size w w' := by
  have hS : St w w [] [(a4, q.q2), (a3, q.t2), (a2, q.q1), (a1, q.t1)] [] := ((((St.start w).addR ha.s1.rd).addR ha.s2.rd).addR ha.s3.rd).addR ha.s4.rd
  refine walk_of (l := [(0, .agg #[.bool q.b1, .slice a1 q.t1.length ac1, .slice a2 q.q1.length ac2, .bool q.b2, .slice a3 q.t2.length ac3, .slice a4 q.q2.length ac4]), (1, .int .i64 n)]) Try.func4 rfl Try.ntmps4 rfl rfl ?_
  intro Q hret hnorm hP a hA
  refine wp_seq_k (fun K1 hK1 => ?_)
  refine wp_region_lit ?_
  refine seq_new (vs := [.bool q.b1, .slice a1 q.t1.length ac1, .slice a2 q.q1.length ac2, .bool q.b2, .slice a3 q.t2.length ac3, .slice a4 q.q2.length ac4]) (t := 26) hA hS rfl rfl rfl (fun g => .pointer (some ⟨g, 0, none⟩)) (does_box rfl rfl) rfl ?_
  intro g2 w3 hS a hA
  refine seq_do hA rfl rfl rfl (does_assign rfl) ?_
  intro a hA
  refine seq_end ?_
  refine hK1 _ _ ?_
  refine wp_seq_k (fun K4 hK4 => ?_)
  refine wp_region_lit ?_
  refine seq_do (v := .agg #[.bool q.b1, .slice a1 q.t1.length ac1, .slice a2 q.q1.length ac2, .bool q.b2, .slice a3 q.t2.length ac3, .slice a4 q.q2.length ac4]) hA rfl rfl rfl (does_loadS hS isS_26 rfl 0 rfl (cs := [.bool q.b1, .slice a1 q.t1.length ac1, .slice a2 q.q1.length ac2, .bool q.b2, .slice a3 q.t2.length ac3, .slice a4 q.q2.length ac4]) rfl rfl) ?_
  intro a hA
  refine seq_do hA rfl rfl rfl (does_move rfl) ?_
  intro a hA
  refine seq_call hA rfl rfl rfl (enters_func  rfl rfl (fun w => by kernel_rfl)) (shiftP_any (show Nm _ q a1 ac1 a2 ac2 a3 ac3 a4 ac4 from ⟨⟨(hS.rd 3 rfl), ha.s1.nil, ha.s1.cap⟩, ⟨(hS.rd 2 rfl), ha.s2.nil, ha.s2.cap⟩, ⟨(hS.rd 1 rfl), ha.s3.nil, ha.s3.cap⟩, ⟨(hS.rd 0 rfl), ha.s4.nil, ha.s4.cap⟩⟩) hl) ?_
  rintro _ w8 ⟨p5_1, p5_c1, p5_2, p5_c2, p5_3, p5_c3, p5_4, p5_c4, rfl, hn6, hb7⟩
  replace hS := hS.call hb7
  replace hS := hS.addR hn6.s1.rd
  replace hS := hS.addR hn6.s2.rd
  replace hS := hS.addR hn6.s3.rd
  replace hS := hS.addR hn6.s4.rd
  refine ⟨_, rfl, ?_⟩
  intro a hA
  refine seq_do hA rfl rfl rfl (does_move rfl) ?_
  intro a hA
  refine seq_do (v := .agg #[.bool ((shiftQ q n).1.b1), .slice p5_1 (((shiftQ q n).1.t1).length) p5_c1, .slice p5_2 (((shiftQ q n).1.q1).length) p5_c2, .bool ((shiftQ q n).1.b2), .slice p5_3 (((shiftQ q n).1.t2).length) p5_c3, .slice p5_4 (((shiftQ q n).1.q2).length) p5_c4]) hA rfl rfl rfl (does_extract (vs := [.agg #[.bool ((shiftQ q n).1.b1), .slice p5_1 (((shiftQ q n).1.t1).length) p5_c1, .slice p5_2 (((shiftQ q n).1.q1).length) p5_c2, .bool ((shiftQ q n).1.b2), .slice p5_3 (((shiftQ q n).1.t2).length) p5_c3, .slice p5_4 (((shiftQ q n).1.q2).length) p5_c4], .int .i64 ((shiftQ q n).2)]) rfl rfl) ?_
  intro a hA
  refine seq_do (v := .int .i64 ((shiftQ q n).2)) hA rfl rfl rfl (does_extract (vs := [.agg #[.bool ((shiftQ q n).1.b1), .slice p5_1 (((shiftQ q n).1.t1).length) p5_c1, .slice p5_2 (((shiftQ q n).1.q1).length) p5_c2, .bool ((shiftQ q n).1.b2), .slice p5_3 (((shiftQ q n).1.t2).length) p5_c3, .slice p5_4 (((shiftQ q n).1.q2).length) p5_c4], .int .i64 ((shiftQ q n).2)]) rfl rfl) ?_
  intro a hA
  refine seq_new (vs := [.bool false, .slice none 0 0, .slice none 0 0, .bool false, .slice none 0 0, .slice none 0 0]) (t := 26) hA hS rfl rfl rfl (fun g => .pointer (some ⟨g, 0, none⟩)) (does_alloc (z := .agg #[.bool false, .slice none 0 0, .slice none 0 0, .bool false, .slice none 0 0, .slice none 0 0]) (by kernel_rfl) rfl) rfl ?_
  intro g9 w10 hS a hA
  refine seq_store (us := [.bool ((shiftQ q n).1.b1), .slice p5_1 (((shiftQ q n).1.t1).length) p5_c1, .slice p5_2 (((shiftQ q n).1.q1).length) p5_c2, .bool ((shiftQ q n).1.b2), .slice p5_3 (((shiftQ q n).1.t2).length) p5_c3, .slice p5_4 (((shiftQ q n).1.q2).length) p5_c4]) hA hS rfl rfl (sets_store (cs := [.bool ((shiftQ q n).1.b1), .slice p5_1 (((shiftQ q n).1.t1).length) p5_c1, .slice p5_2 (((shiftQ q n).1.q1).length) p5_c2, .bool ((shiftQ q n).1.b2), .slice p5_3 (((shiftQ q n).1.t2).length) p5_c3, .slice p5_4 (((shiftQ q n).1.q2).length) p5_c4]) rfl rfl rfl (by kernel_rfl) hS 0 rfl rfl rfl) 0 rfl rfl rfl rfl ?_
  intro w11 hS
  refine seq_do hA rfl rfl rfl (does_assign rfl) ?_
  intro a hA
  refine seq_end ?_
  refine hK4 _ _ ?_
  refine wp_seq_k (fun K12 hK12 => ?_)
  refine wp_region_lit ?_
  refine seq_do (v := .agg #[.bool q.b1, .slice a1 q.t1.length ac1, .slice a2 q.q1.length ac2, .bool q.b2, .slice a3 q.t2.length ac3, .slice a4 q.q2.length ac4]) hA rfl rfl rfl (does_loadS hS isS_26 rfl 1 rfl (cs := [.bool q.b1, .slice a1 q.t1.length ac1, .slice a2 q.q1.length ac2, .bool q.b2, .slice a3 q.t2.length ac3, .slice a4 q.q2.length ac4]) rfl rfl) ?_
  intro a hA
  refine seq_do hA rfl rfl rfl (does_move rfl) ?_
  intro a hA
  refine seq_call hA rfl rfl rfl (enters_func  rfl rfl (fun w => by kernel_rfl)) (shiftR_any (show Nm _ q a1 ac1 a2 ac2 a3 ac3 a4 ac4 from ⟨⟨(hS.rd 7 rfl), ha.s1.nil, ha.s1.cap⟩, ⟨(hS.rd 6 rfl), ha.s2.nil, ha.s2.cap⟩, ⟨(hS.rd 5 rfl), ha.s3.nil, ha.s3.cap⟩, ⟨(hS.rd 4 rfl), ha.s4.nil, ha.s4.cap⟩⟩) hl) ?_
  rintro _ w16 ⟨p13_1, p13_c1, p13_2, p13_c2, p13_3, p13_c3, p13_4, p13_c4, rfl, hn14, hb15⟩
  replace hS := hS.call hb15
  replace hS := hS.addR hn14.s1.rd
  replace hS := hS.addR hn14.s2.rd
  replace hS := hS.addR hn14.s3.rd
  replace hS := hS.addR hn14.s4.rd
  refine ⟨_, rfl, ?_⟩
  intro a hA
  refine seq_do hA rfl rfl rfl (does_move rfl) ?_
  intro a hA
  refine seq_do (v := .agg #[.bool ((shiftQ q n).1.b1), .slice p13_1 (((shiftQ q n).1.t1).length) p13_c1, .slice p13_2 (((shiftQ q n).1.q1).length) p13_c2, .bool ((shiftQ q n).1.b2), .slice p13_3 (((shiftQ q n).1.t2).length) p13_c3, .slice p13_4 (((shiftQ q n).1.q2).length) p13_c4]) hA rfl rfl rfl (does_extract (vs := [.agg #[.bool ((shiftQ q n).1.b1), .slice p13_1 (((shiftQ q n).1.t1).length) p13_c1, .slice p13_2 (((shiftQ q n).1.q1).length) p13_c2, .bool ((shiftQ q n).1.b2), .slice p13_3 (((shiftQ q n).1.t2).length) p13_c3, .slice p13_4 (((shiftQ q n).1.q2).length) p13_c4], .int .i64 ((shiftQ q n).2)]) rfl rfl) ?_
  intro a hA
  refine seq_do (v := .int .i64 ((shiftQ q n).2)) hA rfl rfl rfl (does_extract (vs := [.agg #[.bool ((shiftQ q n).1.b1), .slice p13_1 (((shiftQ q n).1.t1).length) p13_c1, .slice p13_2 (((shiftQ q n).1.q1).length) p13_c2, .bool ((shiftQ q n).1.b2), .slice p13_3 (((shiftQ q n).1.t2).length) p13_c3, .slice p13_4 (((shiftQ q n).1.q2).length) p13_c4], .int .i64 ((shiftQ q n).2)]) rfl rfl) ?_
  intro a hA
  refine seq_new (vs := [.bool false, .slice none 0 0, .slice none 0 0, .bool false, .slice none 0 0, .slice none 0 0]) (t := 26) hA hS rfl rfl rfl (fun g => .pointer (some ⟨g, 0, none⟩)) (does_alloc (z := .agg #[.bool false, .slice none 0 0, .slice none 0 0, .bool false, .slice none 0 0, .slice none 0 0]) (by kernel_rfl) rfl) rfl ?_
  intro g17 w18 hS a hA
  refine seq_store (us := [.bool ((shiftQ q n).1.b1), .slice p13_1 (((shiftQ q n).1.t1).length) p13_c1, .slice p13_2 (((shiftQ q n).1.q1).length) p13_c2, .bool ((shiftQ q n).1.b2), .slice p13_3 (((shiftQ q n).1.t2).length) p13_c3, .slice p13_4 (((shiftQ q n).1.q2).length) p13_c4]) hA hS rfl rfl (sets_store (cs := [.bool ((shiftQ q n).1.b1), .slice p13_1 (((shiftQ q n).1.t1).length) p13_c1, .slice p13_2 (((shiftQ q n).1.q1).length) p13_c2, .bool ((shiftQ q n).1.b2), .slice p13_3 (((shiftQ q n).1.t2).length) p13_c3, .slice p13_4 (((shiftQ q n).1.q2).length) p13_c4]) rfl rfl rfl (by kernel_rfl) hS 0 rfl rfl rfl) 0 rfl rfl rfl rfl ?_
  intro w19 hS
  refine seq_do hA rfl rfl rfl (does_assign rfl) ?_
  intro a hA
  refine seq_end ?_
  refine hK12 _ _ ?_
  refine wp_seq_k (fun K20 hK20 => ?_)
  refine wp_region_lit ?_
  refine seq_do (v := .agg #[.bool q.b1, .slice a1 q.t1.length ac1, .slice a2 q.q1.length ac2, .bool q.b2, .slice a3 q.t2.length ac3, .slice a4 q.q2.length ac4]) hA rfl rfl rfl (does_loadS hS isS_26 rfl 2 rfl (cs := [.bool q.b1, .slice a1 q.t1.length ac1, .slice a2 q.q1.length ac2, .bool q.b2, .slice a3 q.t2.length ac3, .slice a4 q.q2.length ac4]) rfl rfl) ?_
  intro a hA
  refine seq_call hA rfl rfl rfl (enters_func  rfl rfl (fun w => by kernel_rfl)) (countP_any (show Nm _ q a1 ac1 a2 ac2 a3 ac3 a4 ac4 from ⟨⟨(hS.rd 11 rfl), ha.s1.nil, ha.s1.cap⟩, ⟨(hS.rd 10 rfl), ha.s2.nil, ha.s2.cap⟩, ⟨(hS.rd 9 rfl), ha.s3.nil, ha.s3.cap⟩, ⟨(hS.rd 8 rfl), ha.s4.nil, ha.s4.cap⟩⟩) hl) ?_
  rintro _ w22 ⟨rfl, hb21⟩
  replace hS := hS.call hb21
  refine ⟨_, rfl, ?_⟩
  intro a hA
  refine seq_do hA rfl rfl rfl (does_move rfl) ?_
  intro a hA
  refine seq_do (v := .int .i64 ((countQ q).1)) hA rfl rfl rfl (does_extract (vs := [.int .i64 ((countQ q).1), .int .i64 ((countQ q).2)]) rfl rfl) ?_
  intro a hA
  refine seq_do (v := .int .i64 ((countQ q).2)) hA rfl rfl rfl (does_extract (vs := [.int .i64 ((countQ q).1), .int .i64 ((countQ q).2)]) rfl rfl) ?_
  intro a hA
  refine seq_do hA rfl rfl rfl (does_assign rfl) ?_
  intro a hA
  refine seq_do hA rfl rfl rfl (does_assign rfl) ?_
  intro a hA
  refine seq_end ?_
  refine hK20 _ _ ?_
  refine wp_seq_k (fun K23 hK23 => ?_)
  refine wp_region_lit ?_
  refine seq_do (v := .agg #[.bool q.b1, .slice a1 q.t1.length ac1, .slice a2 q.q1.length ac2, .bool q.b2, .slice a3 q.t2.length ac3, .slice a4 q.q2.length ac4]) hA rfl rfl rfl (does_loadS hS isS_26 rfl 2 rfl (cs := [.bool q.b1, .slice a1 q.t1.length ac1, .slice a2 q.q1.length ac2, .bool q.b2, .slice a3 q.t2.length ac3, .slice a4 q.q2.length ac4]) rfl rfl) ?_
  intro a hA
  refine seq_call hA rfl rfl rfl (enters_func  rfl rfl (fun w => by kernel_rfl)) (countR_any (show Nm _ q a1 ac1 a2 ac2 a3 ac3 a4 ac4 from ⟨⟨(hS.rd 11 rfl), ha.s1.nil, ha.s1.cap⟩, ⟨(hS.rd 10 rfl), ha.s2.nil, ha.s2.cap⟩, ⟨(hS.rd 9 rfl), ha.s3.nil, ha.s3.cap⟩, ⟨(hS.rd 8 rfl), ha.s4.nil, ha.s4.cap⟩⟩) hl) ?_
  rintro _ w25 ⟨rfl, hb24⟩
  replace hS := hS.call hb24
  refine ⟨_, rfl, ?_⟩
  intro a hA
  refine seq_do hA rfl rfl rfl (does_move rfl) ?_
  intro a hA
  refine seq_do (v := .int .i64 ((countQ q).1)) hA rfl rfl rfl (does_extract (vs := [.int .i64 ((countQ q).1), .int .i64 ((countQ q).2)]) rfl rfl) ?_
  intro a hA
  refine seq_do (v := .int .i64 ((countQ q).2)) hA rfl rfl rfl (does_extract (vs := [.int .i64 ((countQ q).1), .int .i64 ((countQ q).2)]) rfl rfl) ?_
  intro a hA
  refine seq_do hA rfl rfl rfl (does_assign rfl) ?_
  intro a hA
  refine seq_do hA rfl rfl rfl (does_assign rfl) ?_
  intro a hA
  refine seq_end ?_
  refine hK23 _ _ ?_
  refine wp_seq_k (fun K26 hK26 => ?_)
  refine wp_region_lit ?_
  refine seq_do (v := .agg #[.bool q.b1, .slice a1 q.t1.length ac1, .slice a2 q.q1.length ac2, .bool q.b2, .slice a3 q.t2.length ac3, .slice a4 q.q2.length ac4]) hA rfl rfl rfl (does_loadS hS isS_26 rfl 2 rfl (cs := [.bool q.b1, .slice a1 q.t1.length ac1, .slice a2 q.q1.length ac2, .bool q.b2, .slice a3 q.t2.length ac3, .slice a4 q.q2.length ac4]) rfl rfl) ?_
  intro a hA
  refine seq_call hA rfl rfl rfl (enters_func  rfl rfl (fun w => by kernel_rfl)) (lengthP_any (show Nm _ q a1 ac1 a2 ac2 a3 ac3 a4 ac4 from ⟨⟨(hS.rd 11 rfl), ha.s1.nil, ha.s1.cap⟩, ⟨(hS.rd 10 rfl), ha.s2.nil, ha.s2.cap⟩, ⟨(hS.rd 9 rfl), ha.s3.nil, ha.s3.cap⟩, ⟨(hS.rd 8 rfl), ha.s4.nil, ha.s4.cap⟩⟩) hl) ?_
  rintro _ w28 ⟨rfl, hb27⟩
  replace hS := hS.call hb27
  refine ⟨_, rfl, ?_⟩
  intro a hA
  refine seq_do hA rfl rfl rfl (does_move rfl) ?_
  intro a hA
  refine seq_do (v := .int .i64 ((lengthQ q).1)) hA rfl rfl rfl (does_extract (vs := [.int .i64 ((lengthQ q).1), .int .i64 ((lengthQ q).2)]) rfl rfl) ?_
  intro a hA
  refine seq_do (v := .int .i64 ((lengthQ q).2)) hA rfl rfl rfl (does_extract (vs := [.int .i64 ((lengthQ q).1), .int .i64 ((lengthQ q).2)]) rfl rfl) ?_
  intro a hA
  refine seq_do hA rfl rfl rfl (does_assign rfl) ?_
  intro a hA
  refine seq_do hA rfl rfl rfl (does_assign rfl) ?_
  intro a hA
  refine seq_end ?_
  refine hK26 _ _ ?_
  refine wp_seq_k (fun K29 hK29 => ?_)
  refine wp_region_lit ?_
  refine seq_do (v := .agg #[.bool q.b1, .slice a1 q.t1.length ac1, .slice a2 q.q1.length ac2, .bool q.b2, .slice a3 q.t2.length ac3, .slice a4 q.q2.length ac4]) hA rfl rfl rfl (does_loadS hS isS_26 rfl 2 rfl (cs := [.bool q.b1, .slice a1 q.t1.length ac1, .slice a2 q.q1.length ac2, .bool q.b2, .slice a3 q.t2.length ac3, .slice a4 q.q2.length ac4]) rfl rfl) ?_
  intro a hA
  refine seq_call hA rfl rfl rfl (enters_func  rfl rfl (fun w => by kernel_rfl)) (lengthR_any (show Nm _ q a1 ac1 a2 ac2 a3 ac3 a4 ac4 from ⟨⟨(hS.rd 11 rfl), ha.s1.nil, ha.s1.cap⟩, ⟨(hS.rd 10 rfl), ha.s2.nil, ha.s2.cap⟩, ⟨(hS.rd 9 rfl), ha.s3.nil, ha.s3.cap⟩, ⟨(hS.rd 8 rfl), ha.s4.nil, ha.s4.cap⟩⟩) hl) ?_
  rintro _ w31 ⟨rfl, hb30⟩
  replace hS := hS.call hb30
  refine ⟨_, rfl, ?_⟩
  intro a hA
  refine seq_do hA rfl rfl rfl (does_move rfl) ?_
  intro a hA
  refine seq_do (v := .int .i64 ((lengthQ q).1)) hA rfl rfl rfl (does_extract (vs := [.int .i64 ((lengthQ q).1), .int .i64 ((lengthQ q).2)]) rfl rfl) ?_
  intro a hA
  refine seq_do (v := .int .i64 ((lengthQ q).2)) hA rfl rfl rfl (does_extract (vs := [.int .i64 ((lengthQ q).1), .int .i64 ((lengthQ q).2)]) rfl rfl) ?_
  intro a hA
  refine seq_do hA rfl rfl rfl (does_assign rfl) ?_
  intro a hA
  refine seq_do hA rfl rfl rfl (does_assign rfl) ?_
  intro a hA
  refine seq_end ?_
  refine hK29 _ _ ?_
  refine wp_seq_k (fun K32 hK32 => ?_)
  refine wp_region_lit ?_
  refine seq_call hA rfl rfl rfl (enters_func  rfl rfl (fun w => by kernel_rfl)) (awake4_any) ?_
  rintro _ w34 ⟨rfl, hb33⟩
  replace hS := hS.call hb33
  refine ⟨_, rfl, ?_⟩
  intro a hA
  refine seq_do hA rfl rfl rfl (does_move rfl) ?_
  intro a hA
  refine seq_do (v := .agg #[.bool ((shiftQ q n).1.b1), .slice p5_1 (((shiftQ q n).1.t1).length) p5_c1, .slice p5_2 (((shiftQ q n).1.q1).length) p5_c2, .bool ((shiftQ q n).1.b2), .slice p5_3 (((shiftQ q n).1.t2).length) p5_c3, .slice p5_4 (((shiftQ q n).1.q2).length) p5_c4]) hA rfl rfl rfl (does_loadS hS isS_26 rfl 1 rfl (cs := [.bool ((shiftQ q n).1.b1), .slice p5_1 (((shiftQ q n).1.t1).length) p5_c1, .slice p5_2 (((shiftQ q n).1.q1).length) p5_c2, .bool ((shiftQ q n).1.b2), .slice p5_3 (((shiftQ q n).1.t2).length) p5_c3, .slice p5_4 (((shiftQ q n).1.q2).length) p5_c4]) rfl rfl) ?_
  intro a hA
  refine seq_do (v := .agg #[.bool ((shiftQ q n).1.b1), .slice p13_1 (((shiftQ q n).1.t1).length) p13_c1, .slice p13_2 (((shiftQ q n).1.q1).length) p13_c2, .bool ((shiftQ q n).1.b2), .slice p13_3 (((shiftQ q n).1.t2).length) p13_c3, .slice p13_4 (((shiftQ q n).1.q2).length) p13_c4]) hA rfl rfl rfl (does_loadS hS isS_26 rfl 0 rfl (cs := [.bool ((shiftQ q n).1.b1), .slice p13_1 (((shiftQ q n).1.t1).length) p13_c1, .slice p13_2 (((shiftQ q n).1.q1).length) p13_c2, .bool ((shiftQ q n).1.b2), .slice p13_3 (((shiftQ q n).1.t2).length) p13_c3, .slice p13_4 (((shiftQ q n).1.q2).length) p13_c4]) rfl rfl) ?_
  intro a hA
  refine seq_call hA rfl rfl rfl (enters_func  rfl rfl (fun w => by kernel_rfl)) (alike_any (show Nm _ _ p5_1 p5_c1 p5_2 p5_c2 p5_3 p5_c3 p5_4 p5_c4 from ⟨⟨(hS.rd 7 rfl), hn6.s1.nil, hn6.s1.cap⟩, ⟨(hS.rd 6 rfl), hn6.s2.nil, hn6.s2.cap⟩, ⟨(hS.rd 5 rfl), hn6.s3.nil, hn6.s3.cap⟩, ⟨(hS.rd 4 rfl), hn6.s4.nil, hn6.s4.cap⟩⟩) (lenQ_shift q n) (show Nm _ _ p13_1 p13_c1 p13_2 p13_c2 p13_3 p13_c3 p13_4 p13_c4 from ⟨⟨(hS.rd 3 rfl), hn14.s1.nil, hn14.s1.cap⟩, ⟨(hS.rd 2 rfl), hn14.s2.nil, hn14.s2.cap⟩, ⟨(hS.rd 1 rfl), hn14.s3.nil, hn14.s3.cap⟩, ⟨(hS.rd 0 rfl), hn14.s4.nil, hn14.s4.cap⟩⟩)) ?_
  rintro _ w36 ⟨rfl, hb35⟩
  replace hS := hS.call hb35
  refine ⟨_, rfl, ?_⟩
  intro a hA
  refine seq_do (v := .bool true) hA rfl rfl rfl (does_pick rfl rfl rfl rfl) ?_
  intro a hA
  refine seq_do hA rfl rfl rfl (does_move rfl) ?_
  intro a hA
  refine seq_do hA rfl rfl rfl (does_move rfl) ?_
  intro a hA
  refine seq_do hA rfl rfl rfl (does_move rfl) ?_
  intro a hA
  refine seq_do (v := .bool true) hA rfl rfl rfl (does_bin rfl rfl (fun w => (bin_eql w).trans (by rw [show (((shiftQ q n).2 == (shiftQ q n).2)) = true from beq_self_eq_true _]))) ?_
  intro a hA
  refine seq_do (v := .bool true) hA rfl rfl rfl (does_pick rfl rfl rfl rfl) ?_
  intro a hA
  refine seq_do hA rfl rfl rfl (does_move rfl) ?_
  intro a hA
  refine seq_do hA rfl rfl rfl (does_move rfl) ?_
  intro a hA
  refine seq_do hA rfl rfl rfl (does_move rfl) ?_
  intro a hA
  refine seq_do (v := .bool true) hA rfl rfl rfl (does_bin rfl rfl (fun w => (bin_eql w).trans (by rw [show (((countQ q).1 == (countQ q).1)) = true from beq_self_eq_true _]))) ?_
  intro a hA
  refine seq_do (v := .bool true) hA rfl rfl rfl (does_pick rfl rfl rfl rfl) ?_
  intro a hA
  refine seq_do hA rfl rfl rfl (does_move rfl) ?_
  intro a hA
  refine seq_do hA rfl rfl rfl (does_move rfl) ?_
  intro a hA
  refine seq_do hA rfl rfl rfl (does_move rfl) ?_
  intro a hA
  refine seq_do (v := .bool true) hA rfl rfl rfl (does_bin rfl rfl (fun w => (bin_eql w).trans (by rw [show (((countQ q).2 == (countQ q).2)) = true from beq_self_eq_true _]))) ?_
  intro a hA
  refine seq_do (v := .bool true) hA rfl rfl rfl (does_pick rfl rfl rfl rfl) ?_
  intro a hA
  refine seq_do hA rfl rfl rfl (does_move rfl) ?_
  intro a hA
  refine seq_do hA rfl rfl rfl (does_move rfl) ?_
  intro a hA
  refine seq_do hA rfl rfl rfl (does_move rfl) ?_
  intro a hA
  refine seq_do (v := .bool true) hA rfl rfl rfl (does_bin rfl rfl (fun w => (bin_eql w).trans (by rw [show (((lengthQ q).1 == (lengthQ q).1)) = true from beq_self_eq_true _]))) ?_
  intro a hA
  refine seq_do (v := .bool true) hA rfl rfl rfl (does_pick rfl rfl rfl rfl) ?_
  intro a hA
  refine seq_do hA rfl rfl rfl (does_move rfl) ?_
  intro a hA
  refine seq_do hA rfl rfl rfl (does_move rfl) ?_
  intro a hA
  refine seq_do hA rfl rfl rfl (does_move rfl) ?_
  intro a hA
  refine seq_do (v := .bool true) hA rfl rfl rfl (does_bin rfl rfl (fun w => (bin_eql w).trans (by rw [show (((lengthQ q).2 == (lengthQ q).2)) = true from beq_self_eq_true _]))) ?_
  intro a hA
  refine seq_do (v := .bool true) hA rfl rfl rfl (does_pick rfl rfl rfl rfl) ?_
  intro a hA
  refine seq_do hA rfl rfl rfl (does_assign rfl) ?_
  intro a hA
  refine seq_end ?_
  refine hK32 _ _ ?_
  refine wp_ret ?_
  refine hret _ _ ?_
  refine ends (v := .bool true) hA rfl (.cons (res_tmp rfl) .nil) rfl ?_
  exact ⟨rfl, hS.bel⟩
end Go.Proofs.Yteghiinbafbokaa
namespace Go.Proofs.Yteghiinbafbokaa
open Go.ChangeShapes Go.WideShapes Go.ChangeAt Go.RowKit Go.Joins Go.Deep
set_option linter.unusedVariables false
set_option linter.unusedSimpArgs false
set_option maxRecDepth 100000

section
variable {H : Type} {enc : TypeId × Value → H} {W : World}
theorem trod_bool {fuel : Nat} {v : Value} {x : DataW H × List MemPlace} (h : DataW.trod enc Try.prog W 0 (fun _ => true) true fuel 4 [v] = some x) : ∃ b, v = .bool b := by
  obtain ⟨b, h, _⟩ := DataW.trod_bool Try.underlying4 h
  exact ⟨b, by simpa using h⟩
theorem trod_words {fuel : Nat} {v : Value} {x : DataW H × List MemPlace} (h : DataW.trod enc Try.prog W 0 (fun _ => true) true fuel 22 [v] = some x) : ∃ ao c l, v = .slice ao l.length c ∧ Arg W ao c l := by
  rcases open_ints Try.underlying22 Try.underlying41 (by kernel_rfl) h with ⟨hcs, _⟩ | ⟨x, l, c, zs, hcs, _, hl, hm, hz, hx, hcell, hwz⟩
  · cases hcs
    exact ⟨none, 0, [], rfl, arg_nil W⟩
  · cases hcs
    obtain ⟨us, e, ha⟩ := arg_row hl hm (by simpa using hz) hcell hwz
    subst e
    exact ⟨_, _, us, rfl, ha⟩
theorem trod_rat {fuel : Nat} {v0 v1 v2 : Value} {x : DataW H × List MemPlace} (h : DataW.trod enc Try.prog W 0 (fun _ => true) true fuel 24 [v0, v1, v2] = some x) : ∃ b o1 c1 l1 o2 c2 l2, v0 = .bool b ∧ v1 = .slice o1 l1.length c1 ∧ v2 = .slice o2 l2.length c2 ∧ Arg W o1 c1 l1 ∧ Arg W o2 c2 l2 := by
  obtain ⟨y0, y1, y2, n, _, _, h0, h1, h2⟩ := trod_struct3 Try.underlying24 h
  have e0 : Try.prog.cellsOf 4 = 1 := by kernel_rfl
  have e1 : Try.prog.cellsOf 22 = 1 := by kernel_rfl
  simp only [e0, e1, List.drop_zero, List.take_succ_cons, List.take_zero, List.drop_succ_cons] at h0 h1 h2
  obtain ⟨b, rfl⟩ := trod_bool h0
  obtain ⟨o1, c1, l1, rfl, a1⟩ := trod_words h1
  obtain ⟨o2, c2, l2, rfl, a2⟩ := trod_words h2
  exact ⟨b, o1, c1, l1, o2, c2, l2, rfl, rfl, rfl, a1, a2⟩
theorem open_num {base : Nat} {v : Value} {d : DataW H} {p : List MemPlace} (hv : Value.okWide Try.prog W .any base 26 v) (h : DataW.Trod enc Try.prog W 0 (fun _ => true) true 26 v d p) :
    ∃ q o1 c1 o2 c2 o3 c3 o4 c4, v = numV q o1 c1 o2 c2 o3 c3 o4 c4 ∧ Nm W q o1 c1 o2 c2 o3 c3 o4 c4 ∧ LenQ q := by
  obtain ⟨cs, rfl, hsz⟩ := okWide_struct Try.underlying26 hv
  rw [show Try.prog.cellsOf 26 = 6 from by kernel_rfl] at hsz
  obtain ⟨cs⟩ := cs
  match cs, hsz with
  | [v0, v1, v2, v3, v4, v5], _ =>
    obtain ⟨fuel, hf⟩ := h
    obtain ⟨y0, y1, n, _, _, h0, h1⟩ := trod_struct2 Try.underlying26 hf
    have e : Try.prog.cellsOf 24 = 3 := by kernel_rfl
    simp only [Value.cells, e, List.drop_zero, List.take_succ_cons, List.take_zero, List.drop_succ_cons] at h0 h1
    obtain ⟨b1, o1, c1, l1, o2, c2, l2, rfl, rfl, rfl, a1, a2⟩ := trod_rat h0
    obtain ⟨b2, o3, c3, l3, o4, c4, l4, rfl, rfl, rfl, a3, a4⟩ := trod_rat h1
    exact ⟨⟨b1, l1, l2, b2, l3, l4⟩, o1, c1, o2, c2, o3, c3, o4, c4, rfl, ⟨⟨a1.rd, a1.nil, a1.caps⟩, ⟨a2.rd, a2.nil, a2.caps⟩, ⟨a3.rd, a3.nil, a3.caps⟩, ⟨a4.rd, a4.nil, a4.caps⟩⟩, ⟨a1.len, a2.len, a3.len, a4.len⟩⟩
end
end Go.Proofs.Yteghiinbafbokaa
