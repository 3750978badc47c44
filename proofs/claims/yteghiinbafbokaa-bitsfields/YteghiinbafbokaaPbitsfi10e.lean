/- Walks of the document's And, Or, Xor and Not. Walks of the law on shifts. Walks of the law on And, Or, Xor and Not. Fields of bits. -/
import Derived.Test.YteghiinbafbokaaPbitsfi10d
namespace Go.Proofs.Yteghiinbafbokaa
open Go.RowKit
set_option linter.unusedVariables false
set_option linter.unusedSimpArgs false
set_option maxRecDepth 100000

theorem randE_any {w : World} {p q : Q6} {a1 a2 a3 a4 : Option Addr} {ac1 ac2 ac3 ac4 : Nat} (ha : Nm w p a1 ac1 a2 ac2 a3 ac3 a4 ac4) (hl : LenQ p) {u1 u2 u3 u4 : Option Addr} {uc1 uc2 uc3 uc4 : Nat} (hu : Nm w q u1 uc1 u2 uc2 u3 uc3 u4 uc4) (hm : LenQ q)  (hw : (want2 p q != 0) = true) : Calls Try.prog 7 #[.int .i64 1, numV p a1 ac1 a2 ac2 a3 ac3 a4 ac4, numV q u1 uc1 u2 uc2 u3 uc3 u4 uc4] w (AnsN w (bitQ (fun x y => x &&& y) (fun b c => b && c) p q)) := by
  have hS : St w w [] [(u4, q.q2), (u3, q.t2), (u2, q.q1), (u1, q.t1), (a4, p.q2), (a3, p.t2), (a2, p.q1), (a1, p.t1)] [] := ((((((((St.start w).addR ha.s1.rd).addR ha.s2.rd).addR ha.s3.rd).addR ha.s4.rd).addR hu.s1.rd).addR hu.s2.rd).addR hu.s3.rd).addR hu.s4.rd
  refine walk_of (l := [(0, .int .i64 1), (1, .agg #[.bool p.b1, .slice a1 p.t1.length ac1, .slice a2 p.q1.length ac2, .bool p.b2, .slice a3 p.t2.length ac3, .slice a4 p.q2.length ac4]), (2, .agg #[.bool q.b1, .slice u1 q.t1.length uc1, .slice u2 q.q1.length uc2, .bool q.b2, .slice u3 q.t2.length uc3, .slice u4 q.q2.length uc4])]) Try.func7 rfl Try.ntmps7 rfl rfl ?_
  intro Q hret hnorm hP a hA
  refine wp_seq_k (fun K1 hK1 => ?_)
  refine wp_region_lit ?_
  refine seq_new (vs := [.bool p.b1, .slice a1 p.t1.length ac1, .slice a2 p.q1.length ac2, .bool p.b2, .slice a3 p.t2.length ac3, .slice a4 p.q2.length ac4]) (t := 26) hA hS rfl rfl rfl (fun g => .pointer (some ⟨g, 0, none⟩)) (does_box rfl rfl) rfl ?_
  intro g2 w3 hS a hA
  refine seq_new (vs := [.bool q.b1, .slice u1 q.t1.length uc1, .slice u2 q.q1.length uc2, .bool q.b2, .slice u3 q.t2.length uc3, .slice u4 q.q2.length uc4]) (t := 26) hA hS rfl rfl rfl (fun g => .pointer (some ⟨g, 0, none⟩)) (does_box rfl rfl) rfl ?_
  intro g4 w5 hS a hA
  refine seq_new (vs := [.bool false, .slice none 0 0, .slice none 0 0, .bool false, .slice none 0 0, .slice none 0 0]) (t := 26) hA hS rfl rfl rfl (fun g => .pointer (some ⟨g, 0, none⟩)) (does_alloc (z := .agg #[.bool false, .slice none 0 0, .slice none 0 0, .bool false, .slice none 0 0, .slice none 0 0]) (by kernel_rfl) rfl) rfl ?_
  intro g6 w7 hS a hA
  refine seq_do hA rfl rfl rfl (does_assign rfl) ?_
  intro a hA
  refine seq_end ?_
  refine hK1 _ _ ?_
  refine wp_seq_k (fun K8 hK8 => ?_)
  refine wp_region_lit ?_
  refine seq_do (v := .agg #[.bool p.b1, .slice a1 p.t1.length ac1, .slice a2 p.q1.length ac2, .bool p.b2, .slice a3 p.t2.length ac3, .slice a4 p.q2.length ac4]) hA rfl rfl rfl (does_loadS hS isS_26 rfl 2 rfl (cs := [.bool p.b1, .slice a1 p.t1.length ac1, .slice a2 p.q1.length ac2, .bool p.b2, .slice a3 p.t2.length ac3, .slice a4 p.q2.length ac4]) rfl rfl) ?_
  intro a hA
  refine seq_do (v := .agg #[.bool q.b1, .slice u1 q.t1.length uc1, .slice u2 q.q1.length uc2, .bool q.b2, .slice u3 q.t2.length uc3, .slice u4 q.q2.length uc4]) hA rfl rfl rfl (does_loadS hS isS_26 rfl 1 rfl (cs := [.bool q.b1, .slice u1 q.t1.length uc1, .slice u2 q.q1.length uc2, .bool q.b2, .slice u3 q.t2.length uc3, .slice u4 q.q2.length uc4]) rfl rfl) ?_
  intro a hA
  refine seq_new (vs := [.bool p.b1, .slice a1 p.t1.length ac1, .slice a2 p.q1.length ac2, .bool p.b2, .slice a3 p.t2.length ac3, .slice a4 p.q2.length ac4, .bool q.b1, .slice u1 q.t1.length uc1, .slice u2 q.q1.length uc2, .bool q.b2, .slice u3 q.t2.length uc3, .slice u4 q.q2.length uc4]) (t := 26) hA hS rfl rfl rfl (fun g => .slice (some ⟨g, 0, none⟩) 2 2) (does_buildSlice rfl (by kernel_rfl)) rfl ?_
  intro g9 w10 hS a hA
  refine seq_call hA rfl rfl rfl (enters_func  rfl rfl (fun w => by kernel_rfl)) (rcheck2_any (show Nm _ p a1 ac1 a2 ac2 a3 ac3 a4 ac4 from ⟨⟨(hS.rd 7 rfl), ha.s1.nil, ha.s1.cap⟩, ⟨(hS.rd 6 rfl), ha.s2.nil, ha.s2.cap⟩, ⟨(hS.rd 5 rfl), ha.s3.nil, ha.s3.cap⟩, ⟨(hS.rd 4 rfl), ha.s4.nil, ha.s4.cap⟩⟩) hl (show Nm _ q u1 uc1 u2 uc2 u3 uc3 u4 uc4 from ⟨⟨(hS.rd 3 rfl), hu.s1.nil, hu.s1.cap⟩, ⟨(hS.rd 2 rfl), hu.s2.nil, hu.s2.cap⟩, ⟨(hS.rd 1 rfl), hu.s3.nil, hu.s3.cap⟩, ⟨(hS.rd 0 rfl), hu.s4.nil, hu.s4.cap⟩⟩) hm (hS.blk 0 rfl) rfl) ?_
  rintro _ w12 ⟨rfl, hb11⟩
  replace hS := hS.call hb11
  refine ⟨_, rfl, ?_⟩
  intro a hA
  refine seq_do hA rfl rfl rfl (does_assign rfl) ?_
  intro a hA
  refine seq_end ?_
  refine hK8 _ _ ?_
  refine wp_seq_k (fun K13 hK13 => ?_)
  refine wp_seq_k (fun K14 hK14 => ?_)
  refine wp_region_lit ?_
  refine seq_do hA rfl rfl rfl (does_move rfl) ?_
  intro a hA
  refine seq_do (v := .bool true) hA rfl rfl rfl (does_bin rfl rfl (fun w => (bin_neq w).trans (by rw [show ((want2 p q != 0)) = true from hw]))) ?_
  intro a hA
  refine seq_end ?_
  refine hK14 _ _ ?_
  refine wp_cond_true (hA.ev rfl) ?_
  refine wp_seq_k (fun K15 hK15 => ?_)
  refine wp_region_lit ?_
  refine seq_do (v := .agg #[.bool false, .slice none 0 0, .slice none 0 0, .bool false, .slice none 0 0, .slice none 0 0]) hA rfl rfl rfl (does_build rfl (fun w => by kernel_rfl)) ?_
  intro a hA
  refine seq_do hA rfl rfl rfl (does_move rfl) ?_
  intro a hA
  refine seq_store (us := [.bool false, .slice none 0 0, .slice none 0 0, .bool false, .slice none 0 0, .slice none 0 0]) hA hS rfl rfl (sets_store (cs := [.bool false, .slice none 0 0, .slice none 0 0, .bool false, .slice none 0 0, .slice none 0 0]) rfl rfl rfl (by kernel_rfl) hS 1 rfl rfl rfl) 1 rfl rfl rfl rfl ?_
  intro w16 hS
  refine seq_do hA rfl rfl rfl (does_assign rfl) ?_
  intro a hA
  refine seq_end ?_
  refine hK15 _ _ ?_
  refine wp_ret ?_
  refine hret _ _ ?_
  refine ends (v := .tuple #[.agg #[.bool false, .slice none 0 0, .slice none 0 0, .bool false, .slice none 0 0, .slice none 0 0], .int .i64 (want2 p q)]) hA rfl (.cons (res_cell hS isS_26 rfl 1 rfl (cs := [.bool false, .slice none 0 0, .slice none 0 0, .bool false, .slice none 0 0, .slice none 0 0]) rfl rfl) (.cons (res_tmp rfl) .nil)) rfl ?_
  rw [bitQ_err hw]
  exact ⟨none, 0, none, 0, none, 0, none, 0, rfl, ⟨(Sc.none _), (Sc.none _), (Sc.none _), (Sc.none _)⟩, hS.bel⟩
theorem randW_any {w : World} {b1 b2 : Bool} {x1 x2 : Nat} {a1 a2 a3 a4 : Option Addr} {ac1 ac2 ac3 ac4 : Nat} (ha : Nm w (Q6.whole b1 x1) a1 ac1 a2 ac2 a3 ac3 a4 ac4) (hl : LenQ (Q6.whole b1 x1)) {u1 u2 u3 u4 : Option Addr} {uc1 uc2 uc3 uc4 : Nat} (hu : Nm w (Q6.whole b2 x2) u1 uc1 u2 uc2 u3 uc3 u4 uc4) (hm : LenQ (Q6.whole b2 x2))  (hw : want2 (Q6.whole b1 x1) (Q6.whole b2 x2) = 0) (hx1 : (words x1).length ≤ 512) (hb1 : b1.toNat ≤ x1) (hx2 : (words x2).length ≤ 512) (hb2 : b2.toNat ≤ x2) : Calls Try.prog 7 #[.int .i64 1, numV (Q6.whole b1 x1) a1 ac1 a2 ac2 a3 ac3 a4 ac4, numV (Q6.whole b2 x2) u1 uc1 u2 uc2 u3 uc3 u4 uc4] w (AnsN w (bitQ (fun x y => x &&& y) (fun b c => b && c) (Q6.whole b1 x1) (Q6.whole b2 x2))) := by
  have hS : St w w [] [(u4, [1]), (u3, []), (u2, [1]), (u1, words x2), (a4, [1]), (a3, []), (a2, [1]), (a1, words x1)] [] := ((((((((St.start w).addR ha.s1.rd).addR ha.s2.rd).addR ha.s3.rd).addR ha.s4.rd).addR hu.s1.rd).addR hu.s2.rd).addR hu.s3.rd).addR hu.s4.rd
  refine walk_of (l := [(0, .int .i64 1), (1, .agg #[.bool b1, .slice a1 ((words x1).length) ac1, .slice a2 1 ac2, .bool false, .slice a3 0 ac3, .slice a4 1 ac4]), (2, .agg #[.bool b2, .slice u1 ((words x2).length) uc1, .slice u2 1 uc2, .bool false, .slice u3 0 uc3, .slice u4 1 uc4])]) Try.func7 rfl Try.ntmps7 rfl rfl ?_
  intro Q hret hnorm hP a hA
  refine wp_seq_k (fun K1 hK1 => ?_)
  refine wp_region_lit ?_
  refine seq_new (vs := [.bool b1, .slice a1 ((words x1).length) ac1, .slice a2 1 ac2, .bool false, .slice a3 0 ac3, .slice a4 1 ac4]) (t := 26) hA hS rfl rfl rfl (fun g => .pointer (some ⟨g, 0, none⟩)) (does_box rfl rfl) rfl ?_
  intro g2 w3 hS a hA
  refine seq_new (vs := [.bool b2, .slice u1 ((words x2).length) uc1, .slice u2 1 uc2, .bool false, .slice u3 0 uc3, .slice u4 1 uc4]) (t := 26) hA hS rfl rfl rfl (fun g => .pointer (some ⟨g, 0, none⟩)) (does_box rfl rfl) rfl ?_
  intro g4 w5 hS a hA
  refine seq_new (vs := [.bool false, .slice none 0 0, .slice none 0 0, .bool false, .slice none 0 0, .slice none 0 0]) (t := 26) hA hS rfl rfl rfl (fun g => .pointer (some ⟨g, 0, none⟩)) (does_alloc (z := .agg #[.bool false, .slice none 0 0, .slice none 0 0, .bool false, .slice none 0 0, .slice none 0 0]) (by kernel_rfl) rfl) rfl ?_
  intro g6 w7 hS a hA
  refine seq_do hA rfl rfl rfl (does_assign rfl) ?_
  intro a hA
  refine seq_end ?_
  refine hK1 _ _ ?_
  refine wp_seq_k (fun K8 hK8 => ?_)
  refine wp_region_lit ?_
  refine seq_do (v := .agg #[.bool b1, .slice a1 ((words x1).length) ac1, .slice a2 1 ac2, .bool false, .slice a3 0 ac3, .slice a4 1 ac4]) hA rfl rfl rfl (does_loadS hS isS_26 rfl 2 rfl (cs := [.bool b1, .slice a1 ((words x1).length) ac1, .slice a2 1 ac2, .bool false, .slice a3 0 ac3, .slice a4 1 ac4]) rfl rfl) ?_
  intro a hA
  refine seq_do (v := .agg #[.bool b2, .slice u1 ((words x2).length) uc1, .slice u2 1 uc2, .bool false, .slice u3 0 uc3, .slice u4 1 uc4]) hA rfl rfl rfl (does_loadS hS isS_26 rfl 1 rfl (cs := [.bool b2, .slice u1 ((words x2).length) uc1, .slice u2 1 uc2, .bool false, .slice u3 0 uc3, .slice u4 1 uc4]) rfl rfl) ?_
  intro a hA
  refine seq_new (vs := [.bool b1, .slice a1 ((words x1).length) ac1, .slice a2 1 ac2, .bool false, .slice a3 0 ac3, .slice a4 1 ac4, .bool b2, .slice u1 ((words x2).length) uc1, .slice u2 1 uc2, .bool false, .slice u3 0 uc3, .slice u4 1 uc4]) (t := 26) hA hS rfl rfl rfl (fun g => .slice (some ⟨g, 0, none⟩) 2 2) (does_buildSlice rfl (by kernel_rfl)) rfl ?_
  intro g9 w10 hS a hA
  refine seq_call hA rfl rfl rfl (enters_func  rfl rfl (fun w => by kernel_rfl)) (rcheck2_any (show Nm _ (Q6.whole b1 x1) a1 ac1 a2 ac2 a3 ac3 a4 ac4 from ⟨⟨(hS.rd 7 rfl), ha.s1.nil, ha.s1.cap⟩, ⟨(hS.rd 6 rfl), ha.s2.nil, ha.s2.cap⟩, ⟨(hS.rd 5 rfl), ha.s3.nil, ha.s3.cap⟩, ⟨(hS.rd 4 rfl), ha.s4.nil, ha.s4.cap⟩⟩) hl (show Nm _ (Q6.whole b2 x2) u1 uc1 u2 uc2 u3 uc3 u4 uc4 from ⟨⟨(hS.rd 3 rfl), hu.s1.nil, hu.s1.cap⟩, ⟨(hS.rd 2 rfl), hu.s2.nil, hu.s2.cap⟩, ⟨(hS.rd 1 rfl), hu.s3.nil, hu.s3.cap⟩, ⟨(hS.rd 0 rfl), hu.s4.nil, hu.s4.cap⟩⟩) hm (hS.blk 0 rfl) hw) ?_
  rintro _ w12 ⟨rfl, hb11⟩
  replace hS := hS.call hb11
  refine ⟨_, rfl, ?_⟩
  intro a hA
  refine seq_do hA rfl rfl rfl (does_assign rfl) ?_
  intro a hA
  refine seq_end ?_
  refine hK8 _ _ ?_
  refine wp_seq_k (fun K13 hK13 => ?_)
  refine wp_seq_k (fun K14 hK14 => ?_)
  refine wp_region_lit ?_
  refine seq_do hA rfl rfl rfl (does_move rfl) ?_
  intro a hA
  refine seq_do (v := .bool false) hA rfl rfl rfl (does_bin rfl rfl (fun w => by kernel_rfl)) ?_
  intro a hA
  refine seq_end ?_
  refine hK14 _ _ ?_
  refine wp_cond_false (hA.ev rfl) ?_
  refine wp_skip ?_
  refine hK13 _ _ ?_
  refine wp_seq_k (fun K15 hK15 => ?_)
  refine wp_region_lit ?_
  refine seq_do (v := .pointer (some ⟨g2, 0, none⟩)) hA rfl rfl rfl (does_field fld_26_0 rfl rfl) ?_
  intro a hA
  refine seq_do (v := .pointer (some ⟨g2, 1, none⟩)) hA rfl rfl rfl (does_field fld_24_1 rfl rfl) ?_
  intro a hA
  refine seq_do hA rfl rfl rfl (does_load1 hS is1_22 rfl 3 rfl rfl) ?_
  intro a hA
  refine seq_do (v := .int .i64 ((((words x1).length : Nat) : Int))) hA rfl rfl rfl (does_len Try.underlying22 rfl) ?_
  intro a hA
  refine seq_do (v := .pointer (some ⟨g4, 0, none⟩)) hA rfl rfl rfl (does_field fld_26_0 rfl rfl) ?_
  intro a hA
  refine seq_do (v := .pointer (some ⟨g4, 1, none⟩)) hA rfl rfl rfl (does_field fld_24_1 rfl rfl) ?_
  intro a hA
  refine seq_do hA rfl rfl rfl (does_load1 hS is1_22 rfl 2 rfl rfl) ?_
  intro a hA
  refine seq_do (v := .int .i64 ((((words x2).length : Nat) : Int))) hA rfl rfl rfl (does_len Try.underlying22 rfl) ?_
  intro a hA
  refine seq_do (v := .int .i64 ((((words x1).length + (words x2).length : Nat) : Int))) hA rfl rfl rfl (does_bin rfl rfl (fun w => (bin_add (i64In (by omega) (by omega)) w).trans (by rw [show ((((words x1).length : Nat) : Int) + (((words x2).length : Nat) : Int) : Int) = (((words x1).length + (words x2).length : Nat) : Int) from by omega]))) ?_
  intro a hA
  refine seq_do (v := .int .i64 ((((words x1).length + (words x2).length + 1 : Nat) : Int))) hA rfl rfl rfl (does_bin rfl rfl (fun w => (bin_add (i64In (by omega) (by omega)) w).trans (by rw [show ((((words x1).length + (words x2).length : Nat) : Int) + 1 : Int) = (((words x1).length + (words x2).length + 1 : Nat) : Int) from by omega]))) ?_
  intro a hA
  refine seq_do hA rfl rfl rfl (does_assign rfl) ?_
  intro a hA
  refine seq_end ?_
  refine hK15 _ _ ?_
  refine wp_seq_k (fun K16 hK16 => ?_)
  refine wp_draw (S := fun w1 => St w w1 [(g9, [.bool b1, .slice a1 ((words x1).length) ac1, .slice a2 1 ac2, .bool false, .slice a3 0 ac3, .slice a4 1 ac4, .bool b2, .slice u1 ((words x2).length) uc1, .slice u2 1 uc2, .bool false, .slice u3 0 uc3, .slice u4 1 uc4]), (g6, [.bool false, .slice none 0 0, .slice none 0 0, .bool false, .slice none 0 0, .slice none 0 0]), (g4, [.bool b2, .slice u1 ((words x2).length) uc1, .slice u2 1 uc2, .bool false, .slice u3 0 uc3, .slice u4 1 uc4]), (g2, [.bool b1, .slice a1 ((words x1).length) ac1, .slice a2 1 ac2, .bool false, .slice a3 0 ac3, .slice a4 1 ac4])] [(u4, [1]), (u3, []), (u2, [1]), (u1, words x2), (a4, [1]), (a3, []), (a2, [1]), (a1, words x1)] []) (by kernel_rfl) ?_
  replace hS := hS.drew
  refine any_take (v := .agg #[.bool b1, .slice a1 ((words x1).length) ac1, .slice a2 1 ac2, .bool false, .slice a3 0 ac3, .slice a4 1 ac4]) hA 0 rfl rfl rfl rfl (by kernel_rfl) (by kernel_rfl) (by kernel_rfl) (fun c a w h => hP c a _ _ w h) (hS.part (.cons_cons _ (.cons_cons _ (.cons_cons _ (.cons_cons _ .slnil)))) ⟨⟨0, rfl⟩, ⟨⟨1, rfl⟩, ⟨⟨2, rfl⟩, ⟨⟨3, rfl⟩, ⟨⟨4, rfl⟩, ⟨⟨5, rfl⟩, ⟨⟨6, rfl⟩, ⟨⟨7, rfl⟩, trivial⟩⟩⟩⟩⟩⟩⟩⟩ .slnil) (fun w1 hS => does_loadS hS isS_26 rfl 3 rfl (cs := [.bool b1, .slice a1 ((words x1).length) ac1, .slice a2 1 ac2, .bool false, .slice a3 0 ac3, .slice a4 1 ac4]) rfl rfl) ?_
  intro a hA
  refine any_take hA 1 rfl rfl rfl rfl (by kernel_rfl) (by kernel_rfl) (by kernel_rfl) (fun c a w h => hP c a _ _ w h) (hS.part (.cons_cons _ (.cons_cons _ (.cons_cons _ (.cons_cons _ .slnil)))) ⟨⟨0, rfl⟩, ⟨⟨1, rfl⟩, ⟨⟨2, rfl⟩, ⟨⟨3, rfl⟩, ⟨⟨4, rfl⟩, ⟨⟨5, rfl⟩, ⟨⟨6, rfl⟩, ⟨⟨7, rfl⟩, trivial⟩⟩⟩⟩⟩⟩⟩⟩ .slnil) (fun w1 hS => does_move rfl) ?_
  intro a hA
  refine any_take (v := .agg #[.bool b2, .slice u1 ((words x2).length) uc1, .slice u2 1 uc2, .bool false, .slice u3 0 uc3, .slice u4 1 uc4]) hA 3 rfl rfl rfl rfl (by kernel_rfl) (by kernel_rfl) (by kernel_rfl) (fun c a w h => hP c a _ _ w h) (hS.part (.cons_cons _ (.cons_cons _ (.cons_cons _ (.cons_cons _ .slnil)))) ⟨⟨0, rfl⟩, ⟨⟨1, rfl⟩, ⟨⟨2, rfl⟩, ⟨⟨3, rfl⟩, ⟨⟨4, rfl⟩, ⟨⟨5, rfl⟩, ⟨⟨6, rfl⟩, ⟨⟨7, rfl⟩, trivial⟩⟩⟩⟩⟩⟩⟩⟩ .slnil) (fun w1 hS => does_loadS hS isS_26 rfl 2 rfl (cs := [.bool b2, .slice u1 ((words x2).length) uc1, .slice u2 1 uc2, .bool false, .slice u3 0 uc3, .slice u4 1 uc4]) rfl rfl) ?_
  intro a hA
  refine any_take hA 4 rfl rfl rfl rfl (by kernel_rfl) (by kernel_rfl) (by kernel_rfl) (fun c a w h => hP c a _ _ w h) (hS.part (.cons_cons _ (.cons_cons _ (.cons_cons _ (.cons_cons _ .slnil)))) ⟨⟨0, rfl⟩, ⟨⟨1, rfl⟩, ⟨⟨2, rfl⟩, ⟨⟨3, rfl⟩, ⟨⟨4, rfl⟩, ⟨⟨5, rfl⟩, ⟨⟨6, rfl⟩, ⟨⟨7, rfl⟩, trivial⟩⟩⟩⟩⟩⟩⟩⟩ .slnil) (fun w1 hS => does_move rfl) ?_
  intro a hA
  refine any_one (by kernel_rfl) (op_call hA 2 rfl rfl rfl rfl (enters_func  rfl rfl (fun w => by kernel_rfl)) (rrow_any (show Nm _ (Q6.whole b1 x1) a1 ac1 a2 ac2 a3 ac3 a4 ac4 from ⟨⟨(hS.rd 7 rfl), ha.s1.nil, ha.s1.cap⟩, ⟨(hS.rd 6 rfl), ha.s2.nil, ha.s2.cap⟩, ⟨(hS.rd 5 rfl), ha.s3.nil, ha.s3.cap⟩, ⟨(hS.rd 4 rfl), ha.s4.nil, ha.s4.cap⟩⟩) hx1 hb1 (by omega)) ?_)
  rintro _ w21 ⟨ro17, rc18, rfl, ho19, hb20⟩
  replace hS := hS.call hb20
  replace hS := hS.addR ho19.rd
  refine ⟨_, rfl, (hS.part (.cons_cons _ (.cons_cons _ (.cons_cons _ (.cons_cons _ .slnil)))) ⟨⟨1, rfl⟩, ⟨⟨2, rfl⟩, ⟨⟨3, rfl⟩, ⟨⟨4, rfl⟩, ⟨⟨5, rfl⟩, ⟨⟨6, rfl⟩, ⟨⟨7, rfl⟩, ⟨⟨8, rfl⟩, trivial⟩⟩⟩⟩⟩⟩⟩⟩ .slnil), ?_⟩
  intro a hA
  refine any_one (by kernel_rfl) (op_call hA 5 rfl rfl rfl rfl (enters_func  rfl rfl (fun w => by kernel_rfl)) (rrow_any (show Nm _ (Q6.whole b2 x2) u1 uc1 u2 uc2 u3 uc3 u4 uc4 from ⟨⟨(hS.rd 4 rfl), hu.s1.nil, hu.s1.cap⟩, ⟨(hS.rd 3 rfl), hu.s2.nil, hu.s2.cap⟩, ⟨(hS.rd 2 rfl), hu.s3.nil, hu.s3.cap⟩, ⟨(hS.rd 1 rfl), hu.s4.nil, hu.s4.cap⟩⟩) hx2 hb2 (by omega)) ?_)
  rintro _ w26 ⟨ro22, rc23, rfl, ho24, hb25⟩
  replace hS := hS.call hb25
  replace hS := hS.addR ho24.rd
  refine ⟨_, rfl, (hS.part (.cons_cons _ (.cons_cons _ (.cons_cons _ (.cons_cons _ .slnil)))) ⟨⟨2, rfl⟩, ⟨⟨3, rfl⟩, ⟨⟨4, rfl⟩, ⟨⟨5, rfl⟩, ⟨⟨6, rfl⟩, ⟨⟨7, rfl⟩, ⟨⟨8, rfl⟩, ⟨⟨9, rfl⟩, trivial⟩⟩⟩⟩⟩⟩⟩⟩ .slnil), ?_⟩
  intro a hA
  refine any_take hA 6 rfl rfl rfl rfl (by kernel_rfl) (by kernel_rfl) (by kernel_rfl) (fun c a w h => hP c a _ _ w h) (hS.part (.cons_cons _ (.cons_cons _ (.cons_cons _ (.cons_cons _ .slnil)))) ⟨⟨2, rfl⟩, ⟨⟨3, rfl⟩, ⟨⟨4, rfl⟩, ⟨⟨5, rfl⟩, ⟨⟨6, rfl⟩, ⟨⟨7, rfl⟩, ⟨⟨8, rfl⟩, ⟨⟨9, rfl⟩, trivial⟩⟩⟩⟩⟩⟩⟩⟩ .slnil) (fun w1 hS => does_assign rfl) ?_
  intro a hA
  refine any_take hA 7 rfl rfl rfl rfl (by kernel_rfl) (by kernel_rfl) (by kernel_rfl) (fun c a w h => hP c a _ _ w h) (hS.part (.cons_cons _ (.cons_cons _ (.cons_cons _ (.cons_cons _ .slnil)))) ⟨⟨2, rfl⟩, ⟨⟨3, rfl⟩, ⟨⟨4, rfl⟩, ⟨⟨5, rfl⟩, ⟨⟨6, rfl⟩, ⟨⟨7, rfl⟩, ⟨⟨8, rfl⟩, ⟨⟨9, rfl⟩, trivial⟩⟩⟩⟩⟩⟩⟩⟩ .slnil) (fun w1 hS => does_assign rfl) ?_
  intro a hA
  refine any_end (by kernel_rfl) ?_
  refine hK16 _ _ ?_
  refine wp_seq_k (fun K27 hK27 => ?_)
  refine wp_region_lit ?_
  refine seq_empty hA hS rfl rfl rfl (does_buildSlice rfl (by kernel_rfl)) ?_
  intro g28 w29 hS a hA
  refine seq_do hA rfl rfl rfl (does_assign rfl) ?_
  intro a hA
  refine seq_end ?_
  refine hK27 _ _ ?_
  refine wp_seq_k (fun K30 hK30 => ?_)
  refine wp_seq_k (fun K31 hK31 => ?_)
  refine wp_region_lit ?_
  refine seq_do hA rfl rfl rfl (does_assign rfl) ?_
  intro a hA
  refine seq_end ?_
  refine hK31 _ _ ?_
  refine wp_block ?_
  refine wp_loop_n (fun m a w1 => ∃ (i : Nat) (ro : Option Addr) (rc : Nat), m = (words x1).length + (words x2).length + 1 - i ∧ (i ≤ (words x1).length + (words x2).length + 1) ∧ Sl a 89 [(0, .int .i64 1), (1, .agg #[.bool b1, .slice a1 ((words x1).length) ac1, .slice a2 1 ac2, .bool false, .slice a3 0 ac3, .slice a4 1 ac4]), (2, .agg #[.bool b2, .slice u1 ((words x2).length) uc1, .slice u2 1 uc2, .bool false, .slice u3 0 uc3, .slice u4 1 uc4]), (4, .pointer (some ⟨g2, 0, none⟩)), (5, .pointer (some ⟨g4, 0, none⟩)), (6, .pointer (some ⟨g6, 0, none⟩)), (7, .int .i64 0), (8, .int .i64 0), (9, .int .i64 ((((words x1).length + (words x2).length + 1 : Nat) : Int))), (10, .slice ro17 ((rowL b1 (x1 - b1.toNat) ((words x1).length + (words x2).length + 1)).length) rc18), (11, .slice ro22 ((rowL b2 (x2 - b2.toNat) ((words x1).length + (words x2).length + 1)).length) rc23), (12, .slice ro ((((List.range ((words x1).length + (words x2).length + 1)).map (fun i => rwd b1 (x1 - b1.toNat) i &&& rwd b2 (x2 - b2.toNat) i)).take i).length) rc), (13, .int .i64 (((i : Nat) : Int))), (14, .agg #[.bool b1, .slice a1 ((words x1).length) ac1, .slice a2 1 ac2, .bool false, .slice a3 0 ac3, .slice a4 1 ac4]), (15, .agg #[.bool b2, .slice u1 ((words x2).length) uc1, .slice u2 1 uc2, .bool false, .slice u3 0 uc3, .slice u4 1 uc4]), (16, .slice (some ⟨g9, 0, none⟩) 2 2), (17, .int .i64 0), (18, .int .i64 0), (19, .bool false), (22, .pointer (some ⟨g2, 0, none⟩)), (23, .pointer (some ⟨g2, 1, none⟩)), (24, .slice a1 ((words x1).length) ac1), (25, .int .i64 ((((words x1).length : Nat) : Int))), (26, .pointer (some ⟨g4, 0, none⟩)), (27, .pointer (some ⟨g4, 1, none⟩)), (28, .slice u1 ((words x2).length) uc1), (29, .int .i64 ((((words x2).length : Nat) : Int))), (30, .int .i64 ((((words x1).length + (words x2).length : Nat) : Int))), (31, .int .i64 ((((words x1).length + (words x2).length + 1 : Nat) : Int))), (32, .agg #[.bool b1, .slice a1 ((words x1).length) ac1, .slice a2 1 ac2, .bool false, .slice a3 0 ac3, .slice a4 1 ac4]), (33, .int .i64 ((((words x1).length + (words x2).length + 1 : Nat) : Int))), (34, .slice ro17 ((rowL b1 (x1 - b1.toNat) ((words x1).length + (words x2).length + 1)).length) rc18), (35, .agg #[.bool b2, .slice u1 ((words x2).length) uc1, .slice u2 1 uc2, .bool false, .slice u3 0 uc3, .slice u4 1 uc4]), (36, .int .i64 ((((words x1).length + (words x2).length + 1 : Nat) : Int))), (37, .slice ro22 ((rowL b2 (x2 - b2.toNat) ((words x1).length + (words x2).length + 1)).length) rc23), (38, .slice (some ⟨g28, 0, none⟩) 0 0)] ∧ St w w1 [(g9, [.bool b1, .slice a1 ((words x1).length) ac1, .slice a2 1 ac2, .bool false, .slice a3 0 ac3, .slice a4 1 ac4, .bool b2, .slice u1 ((words x2).length) uc1, .slice u2 1 uc2, .bool false, .slice u3 0 uc3, .slice u4 1 uc4]), (g6, [.bool false, .slice none 0 0, .slice none 0 0, .bool false, .slice none 0 0, .slice none 0 0]), (g4, [.bool b2, .slice u1 ((words x2).length) uc1, .slice u2 1 uc2, .bool false, .slice u3 0 uc3, .slice u4 1 uc4]), (g2, [.bool b1, .slice a1 ((words x1).length) ac1, .slice a2 1 ac2, .bool false, .slice a3 0 ac3, .slice a4 1 ac4])] [(ro22, rowL b2 (x2 - b2.toNat) ((words x1).length + (words x2).length + 1)), (ro17, rowL b1 (x1 - b1.toNat) ((words x1).length + (words x2).length + 1)), (u4, [1]), (u3, []), (u2, [1]), (u1, words x2), (a4, [1]), (a3, []), (a2, [1]), (a1, words x1)] [(ro, rc, ((List.range ((words x1).length + (words x2).length + 1)).map (fun i => rwd b1 (x1 - b1.toNat) i &&& rwd b2 (x2 - b2.toNat) i)).take i)]) _ ⟨0, some ⟨g28, 0, none⟩, 0, rfl, (Nat.zero_le _), hA.keep _ ⟨rfl, rfl, rfl, rfl, rfl, rfl, rfl, rfl, rfl, rfl, rfl, rfl, rfl, rfl, rfl, rfl, rfl, rfl, rfl, rfl, rfl, rfl, rfl, rfl, rfl, rfl, rfl, rfl, rfl, rfl, rfl, rfl, rfl, rfl, rfl, rfl, trivial⟩, hS⟩ ?_
  clear hS hA
  rintro m a w32 ⟨i, ro, rc, rfl, hinv34, hA, hS⟩ K33 hK33
  have htl9 : (((List.range ((words x1).length + (words x2).length + 1)).map (fun i => rwd b1 (x1 - b1.toNat) i &&& rwd b2 (x2 - b2.toNat) i)).take i).length ≤ (words x1).length + (words x2).length + 1 := by rw [List.length_take, mapr_len]; omega
  refine wp_seq_k (fun K35 hK35 => ?_)
  refine wp_seq_k (fun K36 hK36 => ?_)
  refine wp_region_lit ?_
  refine seq_do hA rfl rfl rfl (does_move rfl) ?_
  intro a hA
  refine seq_do hA rfl rfl rfl (does_move rfl) ?_
  intro a hA
  rcases Bool.eq_false_or_eq_true (decide (((i : Nat) : Int) < (((words x1).length + (words x2).length + 1 : Nat) : Int))) with hb37 | hb37
  · have hb37' := of_decide_eq_true hb37
    refine seq_do (v := .bool true) hA rfl rfl rfl (does_bin rfl rfl (fun w => (bin_lss w).trans (by rw [hb37]))) ?_
    intro a hA
    refine seq_end ?_
    refine hK36 _ _ ?_
    refine wp_cond_true (hA.ev rfl) ?_
    refine wp_skip ?_
    refine hK35 _ _ ?_
    refine wp_seq_k (fun K38 hK38 => ?_)
    refine wp_block ?_
    refine wp_seq_k (fun K39 hK39 => ?_)
    refine wp_region_lit ?_
    refine seq_do hA rfl rfl rfl (does_move rfl) ?_
    intro a hA
    refine seq_end ?_
    refine hK39 _ _ ?_
    refine wp_block ?_
    refine wp_seq_k (fun K40 hK40 => ?_)
    refine wp_region_lit ?_
    refine seq_do (v := .bool true) hA rfl rfl rfl (does_bin rfl rfl (fun w => by kernel_rfl)) ?_
    intro a hA
    refine seq_do hA rfl rfl rfl (does_assign rfl) ?_
    intro a hA
    refine seq_end ?_
    refine hK40 _ _ ?_
    refine wp_cond_true (hA.ev rfl) ?_
    refine wp_draw (S := fun w1 => St w w1 [(g9, [.bool b1, .slice a1 ((words x1).length) ac1, .slice a2 1 ac2, .bool false, .slice a3 0 ac3, .slice a4 1 ac4, .bool b2, .slice u1 ((words x2).length) uc1, .slice u2 1 uc2, .bool false, .slice u3 0 uc3, .slice u4 1 uc4]), (g6, [.bool false, .slice none 0 0, .slice none 0 0, .bool false, .slice none 0 0, .slice none 0 0]), (g4, [.bool b2, .slice u1 ((words x2).length) uc1, .slice u2 1 uc2, .bool false, .slice u3 0 uc3, .slice u4 1 uc4]), (g2, [.bool b1, .slice a1 ((words x1).length) ac1, .slice a2 1 ac2, .bool false, .slice a3 0 ac3, .slice a4 1 ac4])] [(ro22, rowL b2 (x2 - b2.toNat) ((words x1).length + (words x2).length + 1)), (ro17, rowL b1 (x1 - b1.toNat) ((words x1).length + (words x2).length + 1)), (u4, [1]), (u3, []), (u2, [1]), (u1, words x2), (a4, [1]), (a3, []), (a2, [1]), (a1, words x1)] []) (by kernel_rfl) ?_
    replace hS := hS.drew
    refine any_take hA 0 rfl rfl rfl rfl (by kernel_rfl) (by kernel_rfl) (by kernel_rfl) (fun c a w h => hP c a _ _ w h) (hS.part (.cons_cons _ (.cons_cons _ (.cons_cons _ (.cons_cons _ .slnil)))) ⟨⟨0, rfl⟩, ⟨⟨1, rfl⟩, ⟨⟨2, rfl⟩, ⟨⟨3, rfl⟩, ⟨⟨4, rfl⟩, ⟨⟨5, rfl⟩, ⟨⟨6, rfl⟩, ⟨⟨7, rfl⟩, ⟨⟨8, rfl⟩, ⟨⟨9, rfl⟩, trivial⟩⟩⟩⟩⟩⟩⟩⟩⟩⟩ (.cons _ .slnil)) (fun w1 hS => does_move rfl) ?_
    intro a hA
    refine any_take hA 1 rfl rfl rfl rfl (by kernel_rfl) (by kernel_rfl) (by kernel_rfl) (fun c a w h => hP c a _ _ w h) (hS.part (.cons_cons _ (.cons_cons _ (.cons_cons _ (.cons_cons _ .slnil)))) ⟨⟨0, rfl⟩, ⟨⟨1, rfl⟩, ⟨⟨2, rfl⟩, ⟨⟨3, rfl⟩, ⟨⟨4, rfl⟩, ⟨⟨5, rfl⟩, ⟨⟨6, rfl⟩, ⟨⟨7, rfl⟩, ⟨⟨8, rfl⟩, ⟨⟨9, rfl⟩, trivial⟩⟩⟩⟩⟩⟩⟩⟩⟩⟩ (.cons _ .slnil)) (fun w1 hS => does_move rfl) ?_
    intro a hA
    refine any_take hA 2 rfl rfl rfl rfl (by kernel_rfl) (by kernel_rfl) (by kernel_rfl) (fun c a w h => hP c a _ _ w h) (hS.part (.cons_cons _ (.cons_cons _ (.cons_cons _ (.cons_cons _ .slnil)))) ⟨⟨0, rfl⟩, ⟨⟨1, rfl⟩, ⟨⟨2, rfl⟩, ⟨⟨3, rfl⟩, ⟨⟨4, rfl⟩, ⟨⟨5, rfl⟩, ⟨⟨6, rfl⟩, ⟨⟨7, rfl⟩, ⟨⟨8, rfl⟩, ⟨⟨9, rfl⟩, trivial⟩⟩⟩⟩⟩⟩⟩⟩⟩⟩ (.cons _ .slnil)) (fun w1 hS => does_move rfl) ?_
    intro a hA
    have hi44 : i < (rowL b1 (x1 - b1.toNat) ((words x1).length + (words x2).length + 1)).length := by first | omega | (simp only [List.length_set]; omega) | (rw [rowL_len]; omega)
    obtain ⟨b41, f42, hso43⟩ := Rd.addr (hS.rd 1 rfl) hi44
    refine any_take (v := .pointer (some ⟨b41, f42 + i, none⟩)) hA 3 rfl rfl rfl rfl (by kernel_rfl) (by kernel_rfl) (by kernel_rfl) (fun c a w h => hP c a _ _ w h) (hS.part (.cons_cons _ (.cons_cons _ (.cons_cons _ (.cons_cons _ .slnil)))) ⟨⟨0, rfl⟩, ⟨⟨1, rfl⟩, ⟨⟨2, rfl⟩, ⟨⟨3, rfl⟩, ⟨⟨4, rfl⟩, ⟨⟨5, rfl⟩, ⟨⟨6, rfl⟩, ⟨⟨7, rfl⟩, ⟨⟨8, rfl⟩, ⟨⟨9, rfl⟩, trivial⟩⟩⟩⟩⟩⟩⟩⟩⟩⟩ (.cons _ .slnil)) (fun w1 hS => does_indexRow (k := i) Try.underlying22 (by kernel_rfl) rfl rfl (by omega) hso43 hi44) ?_
    intro a hA
    refine any_take (v := .int .u32 ((((rowL b1 (x1 - b1.toNat) ((words x1).length + (words x2).length + 1)).getD i 0 : Nat) : Int))) hA 4 rfl rfl rfl rfl (by kernel_rfl) (by kernel_rfl) (by kernel_rfl) (fun c a w h => hP c a _ _ w h) (hS.part (.cons_cons _ (.cons_cons _ (.cons_cons _ (.cons_cons _ .slnil)))) ⟨⟨0, rfl⟩, ⟨⟨1, rfl⟩, ⟨⟨2, rfl⟩, ⟨⟨3, rfl⟩, ⟨⟨4, rfl⟩, ⟨⟨5, rfl⟩, ⟨⟨6, rfl⟩, ⟨⟨7, rfl⟩, ⟨⟨8, rfl⟩, ⟨⟨9, rfl⟩, trivial⟩⟩⟩⟩⟩⟩⟩⟩⟩⟩ (.cons _ .slnil)) (fun w1 hS => does_loadRow (hS.rd 1 rfl) hso43 hi44 is1_41 rfl) ?_
    intro a hA
    refine any_take hA 5 rfl rfl rfl rfl (by kernel_rfl) (by kernel_rfl) (by kernel_rfl) (fun c a w h => hP c a _ _ w h) (hS.part (.cons_cons _ (.cons_cons _ (.cons_cons _ (.cons_cons _ .slnil)))) ⟨⟨0, rfl⟩, ⟨⟨1, rfl⟩, ⟨⟨2, rfl⟩, ⟨⟨3, rfl⟩, ⟨⟨4, rfl⟩, ⟨⟨5, rfl⟩, ⟨⟨6, rfl⟩, ⟨⟨7, rfl⟩, ⟨⟨8, rfl⟩, ⟨⟨9, rfl⟩, trivial⟩⟩⟩⟩⟩⟩⟩⟩⟩⟩ (.cons _ .slnil)) (fun w1 hS => does_move rfl) ?_
    intro a hA
    refine any_take hA 6 rfl rfl rfl rfl (by kernel_rfl) (by kernel_rfl) (by kernel_rfl) (fun c a w h => hP c a _ _ w h) (hS.part (.cons_cons _ (.cons_cons _ (.cons_cons _ (.cons_cons _ .slnil)))) ⟨⟨0, rfl⟩, ⟨⟨1, rfl⟩, ⟨⟨2, rfl⟩, ⟨⟨3, rfl⟩, ⟨⟨4, rfl⟩, ⟨⟨5, rfl⟩, ⟨⟨6, rfl⟩, ⟨⟨7, rfl⟩, ⟨⟨8, rfl⟩, ⟨⟨9, rfl⟩, trivial⟩⟩⟩⟩⟩⟩⟩⟩⟩⟩ (.cons _ .slnil)) (fun w1 hS => does_move rfl) ?_
    intro a hA
    have hi48 : i < (rowL b2 (x2 - b2.toNat) ((words x1).length + (words x2).length + 1)).length := by first | omega | (simp only [List.length_set]; omega) | (rw [rowL_len]; omega)
    obtain ⟨b45, f46, hso47⟩ := Rd.addr (hS.rd 0 rfl) hi48
    refine any_take (v := .pointer (some ⟨b45, f46 + i, none⟩)) hA 7 rfl rfl rfl rfl (by kernel_rfl) (by kernel_rfl) (by kernel_rfl) (fun c a w h => hP c a _ _ w h) (hS.part (.cons_cons _ (.cons_cons _ (.cons_cons _ (.cons_cons _ .slnil)))) ⟨⟨0, rfl⟩, ⟨⟨1, rfl⟩, ⟨⟨2, rfl⟩, ⟨⟨3, rfl⟩, ⟨⟨4, rfl⟩, ⟨⟨5, rfl⟩, ⟨⟨6, rfl⟩, ⟨⟨7, rfl⟩, ⟨⟨8, rfl⟩, ⟨⟨9, rfl⟩, trivial⟩⟩⟩⟩⟩⟩⟩⟩⟩⟩ (.cons _ .slnil)) (fun w1 hS => does_indexRow (k := i) Try.underlying22 (by kernel_rfl) rfl rfl (by omega) hso47 hi48) ?_
    intro a hA
    refine any_take (v := .int .u32 ((((rowL b2 (x2 - b2.toNat) ((words x1).length + (words x2).length + 1)).getD i 0 : Nat) : Int))) hA 8 rfl rfl rfl rfl (by kernel_rfl) (by kernel_rfl) (by kernel_rfl) (fun c a w h => hP c a _ _ w h) (hS.part (.cons_cons _ (.cons_cons _ (.cons_cons _ (.cons_cons _ .slnil)))) ⟨⟨0, rfl⟩, ⟨⟨1, rfl⟩, ⟨⟨2, rfl⟩, ⟨⟨3, rfl⟩, ⟨⟨4, rfl⟩, ⟨⟨5, rfl⟩, ⟨⟨6, rfl⟩, ⟨⟨7, rfl⟩, ⟨⟨8, rfl⟩, ⟨⟨9, rfl⟩, trivial⟩⟩⟩⟩⟩⟩⟩⟩⟩⟩ (.cons _ .slnil)) (fun w1 hS => does_loadRow (hS.rd 0 rfl) hso47 hi48 is1_41 rfl) ?_
    intro a hA
    refine any_take (v := .int .u32 ((((rowL b1 (x1 - b1.toNat) ((words x1).length + (words x2).length + 1)).getD i 0 &&& (rowL b2 (x2 - b2.toNat) ((words x1).length + (words x2).length + 1)).getD i 0 : Nat) : Int))) hA 9 rfl rfl rfl rfl (by kernel_rfl) (by kernel_rfl) (by kernel_rfl) (fun c a w h => hP c a _ _ w h) (hS.part (.cons_cons _ (.cons_cons _ (.cons_cons _ (.cons_cons _ .slnil)))) ⟨⟨0, rfl⟩, ⟨⟨1, rfl⟩, ⟨⟨2, rfl⟩, ⟨⟨3, rfl⟩, ⟨⟨4, rfl⟩, ⟨⟨5, rfl⟩, ⟨⟨6, rfl⟩, ⟨⟨7, rfl⟩, ⟨⟨8, rfl⟩, ⟨⟨9, rfl⟩, trivial⟩⟩⟩⟩⟩⟩⟩⟩⟩⟩ (.cons _ .slnil)) (fun w1 hS => does_bin rfl rfl (bin_and (Dig.getD (rowL_dig _ _ _) _) (Dig.getD (rowL_dig _ _ _) _))) ?_
    intro a hA
    refine any_one (by kernel_rfl) (op_newU (us := [(rowL b1 (x1 - b1.toNat) ((words x1).length + (words x2).length + 1)).getD i 0 &&& (rowL b2 (x2 - b2.toNat) ((words x1).length + (words x2).length + 1)).getD i 0]) (t := 41) (m := 1) hA hS 10 rfl rfl rfl rfl (does_buildSlice rfl (by kernel_rfl)) (by intro z hz; rw [List.mem_singleton] at hz; subst hz; exact (and_op.lt _ _ (Dig.getD (rowL_dig _ _ _) _) (Dig.getD (rowL_dig _ _ _) _))) ?_)
    intro g49 w50 hS
    refine ⟨(hS.part (.cons_cons _ (.cons_cons _ (.cons_cons _ (.cons_cons _ .slnil)))) ⟨⟨1, rfl⟩, ⟨⟨2, rfl⟩, ⟨⟨3, rfl⟩, ⟨⟨4, rfl⟩, ⟨⟨5, rfl⟩, ⟨⟨6, rfl⟩, ⟨⟨7, rfl⟩, ⟨⟨8, rfl⟩, ⟨⟨9, rfl⟩, ⟨⟨10, rfl⟩, trivial⟩⟩⟩⟩⟩⟩⟩⟩⟩⟩ (.cons _ .slnil)), ?_⟩
    intro a hA
    refine any_one (by kernel_rfl) (op_append (k := 0) (us := ((List.range ((words x1).length + (words x2).length + 1)).map (fun i => rwd b1 (x1 - b1.toNat) i &&& rwd b2 (x2 - b2.toNat) i)).take i) (news := [(rowL b1 (x1 - b1.toNat) ((words x1).length + (words x2).length + 1)).getD i 0 &&& (rowL b2 (x2 - b2.toNat) ((words x1).length + (words x2).length + 1)).getD i 0]) hA 11 rfl rfl rfl rfl (does_append Try.underlying22 rfl (by kernel_rfl) hS 0 rfl rfl rfl 0 rfl rfl rfl (by first | omega | (simp only [List.length_append, List.length_cons, List.length_nil]; omega))) ?_)
    intro g52 rc53 w51 hS
    refine ⟨(hS.part (.cons_cons _ (.cons_cons _ (.cons_cons _ (.cons_cons _ .slnil)))) ⟨⟨1, rfl⟩, ⟨⟨2, rfl⟩, ⟨⟨3, rfl⟩, ⟨⟨4, rfl⟩, ⟨⟨5, rfl⟩, ⟨⟨6, rfl⟩, ⟨⟨7, rfl⟩, ⟨⟨8, rfl⟩, ⟨⟨9, rfl⟩, ⟨⟨10, rfl⟩, trivial⟩⟩⟩⟩⟩⟩⟩⟩⟩⟩ (.cons _ .slnil)), ?_⟩
    intro a hA
    refine any_take hA 12 rfl rfl rfl rfl (by kernel_rfl) (by kernel_rfl) (by kernel_rfl) (fun c a w h => hP c a _ _ w h) (hS.part (.cons_cons _ (.cons_cons _ (.cons_cons _ (.cons_cons _ .slnil)))) ⟨⟨1, rfl⟩, ⟨⟨2, rfl⟩, ⟨⟨3, rfl⟩, ⟨⟨4, rfl⟩, ⟨⟨5, rfl⟩, ⟨⟨6, rfl⟩, ⟨⟨7, rfl⟩, ⟨⟨8, rfl⟩, ⟨⟨9, rfl⟩, ⟨⟨10, rfl⟩, trivial⟩⟩⟩⟩⟩⟩⟩⟩⟩⟩ (.cons _ .slnil)) (fun w1 hS => does_assign rfl) ?_
    intro a hA
    refine any_end (by kernel_rfl) ?_
    refine hK38 _ _ ?_
    refine wp_region_lit ?_
    refine seq_do hA rfl rfl rfl (does_move rfl) ?_
    intro a hA
    refine seq_do (v := .int .i64 (((i + 1 : Nat) : Int))) hA rfl rfl rfl (does_bin rfl rfl (fun w => (bin_add (i64In (by omega) (by omega)) w).trans (by rw [show (((i : Nat) : Int) + 1 : Int) = ((i + 1 : Nat) : Int) from by omega]))) ?_
    intro a hA
    refine seq_do hA rfl rfl rfl (does_assign rfl) ?_
    intro a hA
    refine seq_end ?_
    rw [take_snoc (u := (List.range ((words x1).length + (words x2).length + 1)).map (fun i => rwd b1 (x1 - b1.toNat) i &&& rwd b2 (x2 - b2.toNat) i)) (by rw [mapr_len]; omega) (by rw [mapr_get (by omega), rowL_get (by omega), rowL_get (by omega)])] at hS hA
    refine hK33 _ _ _ (by omega) ⟨i + 1, some ⟨g52, 0, none⟩, rc53, rfl, (by omega), hA.keep _ ⟨rfl, rfl, rfl, rfl, rfl, rfl, rfl, rfl, rfl, rfl, rfl, rfl, rfl, rfl, rfl, rfl, rfl, rfl, rfl, rfl, rfl, rfl, rfl, rfl, rfl, rfl, rfl, rfl, rfl, rfl, rfl, rfl, rfl, rfl, rfl, rfl, trivial⟩, ((hS.pickR [(ro22, rowL b2 (x2 - b2.toNat) ((words x1).length + (words x2).length + 1)), (ro17, rowL b1 (x1 - b1.toNat) ((words x1).length + (words x2).length + 1)), (u4, [1]), (u3, []), (u2, [1]), (u1, words x2), (a4, [1]), (a3, []), (a2, [1]), (a1, words x1)] ⟨⟨1, rfl⟩, ⟨⟨2, rfl⟩, ⟨⟨3, rfl⟩, ⟨⟨4, rfl⟩, ⟨⟨5, rfl⟩, ⟨⟨6, rfl⟩, ⟨⟨7, rfl⟩, ⟨⟨8, rfl⟩, ⟨⟨9, rfl⟩, ⟨⟨10, rfl⟩, trivial⟩⟩⟩⟩⟩⟩⟩⟩⟩⟩).subL _ (.cons_cons _ (.cons_cons _ (.cons_cons _ (.cons_cons _ .slnil)))))⟩
  · have hb37' := of_decide_eq_false hb37
    refine seq_do (v := .bool false) hA rfl rfl rfl (does_bin rfl rfl (fun w => (bin_lss w).trans (by rw [hb37]))) ?_
    intro a hA
    refine seq_end ?_
    refine hK36 _ _ ?_
    refine wp_cond_false (hA.ev rfl) ?_
    refine wp_exit ?_
    refine hK30 _ _ ?_
    refine wp_seq_k (fun K54 hK54 => ?_)
    refine wp_region_lit ?_
    refine seq_do hA rfl rfl rfl (does_move rfl) ?_
    intro a hA
    refine seq_call hA rfl rfl rfl (enters_func  rfl rfl (fun w => by kernel_rfl)) (rnumber_any (u := outL (fun x y => x &&& y) (fun b c => b && c) b1 (x1 - b1.toNat) b2 (x2 - b2.toNat) ((words x1).length + (words x2).length + 1)) (s := (b1 && b2)) (outL_dig and_op _) (by rw [outL_len]; omega) (by rw [outL_len]; omega) (by rw [outL_len, outL_get (by omega)]; exact outW_end and_op (by have := sub_len (b := b1) (Nat.le_refl (words x1).length); omega) (by have := sub_len (b := b2) (Nat.le_refl (words x2).length); omega)) (by rw [mapr_all (by omega)]; exact both_twos) (hS.row 0 rfl).sc) ?_
    rintro _ w58 ⟨p55_1, p55_c1, p55_2, p55_c2, p55_3, p55_c3, p55_4, p55_c4, rfl, hn56, hb57⟩
    replace hS := hS.subO [] (.cons _ .slnil)
    replace hS := hS.call hb57
    replace hS := hS.addR hn56.s1.rd
    replace hS := hS.addR hn56.s2.rd
    replace hS := hS.addR hn56.s3.rd
    replace hS := hS.addR hn56.s4.rd
    refine ⟨_, rfl, ?_⟩
    intro a hA
    refine seq_do (v := .agg #[.bool ((bigS (b1 && b2) (val (outL (fun x y => x &&& y) (fun b c => b && c) b1 (x1 - b1.toNat) b2 (x2 - b2.toNat) ((words x1).length + (words x2).length + 1)) + (b1 && b2).toNat)).1.b1), .slice p55_1 (((bigS (b1 && b2) (val (outL (fun x y => x &&& y) (fun b c => b && c) b1 (x1 - b1.toNat) b2 (x2 - b2.toNat) ((words x1).length + (words x2).length + 1)) + (b1 && b2).toNat)).1.t1).length) p55_c1, .slice p55_2 (((bigS (b1 && b2) (val (outL (fun x y => x &&& y) (fun b c => b && c) b1 (x1 - b1.toNat) b2 (x2 - b2.toNat) ((words x1).length + (words x2).length + 1)) + (b1 && b2).toNat)).1.q1).length) p55_c2, .bool ((bigS (b1 && b2) (val (outL (fun x y => x &&& y) (fun b c => b && c) b1 (x1 - b1.toNat) b2 (x2 - b2.toNat) ((words x1).length + (words x2).length + 1)) + (b1 && b2).toNat)).1.b2), .slice p55_3 (((bigS (b1 && b2) (val (outL (fun x y => x &&& y) (fun b c => b && c) b1 (x1 - b1.toNat) b2 (x2 - b2.toNat) ((words x1).length + (words x2).length + 1)) + (b1 && b2).toNat)).1.t2).length) p55_c3, .slice p55_4 (((bigS (b1 && b2) (val (outL (fun x y => x &&& y) (fun b c => b && c) b1 (x1 - b1.toNat) b2 (x2 - b2.toNat) ((words x1).length + (words x2).length + 1)) + (b1 && b2).toNat)).1.q2).length) p55_c4]) hA rfl rfl rfl (does_extract (vs := [.agg #[.bool ((bigS (b1 && b2) (val (outL (fun x y => x &&& y) (fun b c => b && c) b1 (x1 - b1.toNat) b2 (x2 - b2.toNat) ((words x1).length + (words x2).length + 1)) + (b1 && b2).toNat)).1.b1), .slice p55_1 (((bigS (b1 && b2) (val (outL (fun x y => x &&& y) (fun b c => b && c) b1 (x1 - b1.toNat) b2 (x2 - b2.toNat) ((words x1).length + (words x2).length + 1)) + (b1 && b2).toNat)).1.t1).length) p55_c1, .slice p55_2 (((bigS (b1 && b2) (val (outL (fun x y => x &&& y) (fun b c => b && c) b1 (x1 - b1.toNat) b2 (x2 - b2.toNat) ((words x1).length + (words x2).length + 1)) + (b1 && b2).toNat)).1.q1).length) p55_c2, .bool ((bigS (b1 && b2) (val (outL (fun x y => x &&& y) (fun b c => b && c) b1 (x1 - b1.toNat) b2 (x2 - b2.toNat) ((words x1).length + (words x2).length + 1)) + (b1 && b2).toNat)).1.b2), .slice p55_3 (((bigS (b1 && b2) (val (outL (fun x y => x &&& y) (fun b c => b && c) b1 (x1 - b1.toNat) b2 (x2 - b2.toNat) ((words x1).length + (words x2).length + 1)) + (b1 && b2).toNat)).1.t2).length) p55_c3, .slice p55_4 (((bigS (b1 && b2) (val (outL (fun x y => x &&& y) (fun b c => b && c) b1 (x1 - b1.toNat) b2 (x2 - b2.toNat) ((words x1).length + (words x2).length + 1)) + (b1 && b2).toNat)).1.q2).length) p55_c4], .int .i64 ((bigS (b1 && b2) (val (outL (fun x y => x &&& y) (fun b c => b && c) b1 (x1 - b1.toNat) b2 (x2 - b2.toNat) ((words x1).length + (words x2).length + 1)) + (b1 && b2).toNat)).2)]) rfl rfl) ?_
    intro a hA
    refine seq_do (v := .int .i64 ((bigS (b1 && b2) (val (outL (fun x y => x &&& y) (fun b c => b && c) b1 (x1 - b1.toNat) b2 (x2 - b2.toNat) ((words x1).length + (words x2).length + 1)) + (b1 && b2).toNat)).2)) hA rfl rfl rfl (does_extract (vs := [.agg #[.bool ((bigS (b1 && b2) (val (outL (fun x y => x &&& y) (fun b c => b && c) b1 (x1 - b1.toNat) b2 (x2 - b2.toNat) ((words x1).length + (words x2).length + 1)) + (b1 && b2).toNat)).1.b1), .slice p55_1 (((bigS (b1 && b2) (val (outL (fun x y => x &&& y) (fun b c => b && c) b1 (x1 - b1.toNat) b2 (x2 - b2.toNat) ((words x1).length + (words x2).length + 1)) + (b1 && b2).toNat)).1.t1).length) p55_c1, .slice p55_2 (((bigS (b1 && b2) (val (outL (fun x y => x &&& y) (fun b c => b && c) b1 (x1 - b1.toNat) b2 (x2 - b2.toNat) ((words x1).length + (words x2).length + 1)) + (b1 && b2).toNat)).1.q1).length) p55_c2, .bool ((bigS (b1 && b2) (val (outL (fun x y => x &&& y) (fun b c => b && c) b1 (x1 - b1.toNat) b2 (x2 - b2.toNat) ((words x1).length + (words x2).length + 1)) + (b1 && b2).toNat)).1.b2), .slice p55_3 (((bigS (b1 && b2) (val (outL (fun x y => x &&& y) (fun b c => b && c) b1 (x1 - b1.toNat) b2 (x2 - b2.toNat) ((words x1).length + (words x2).length + 1)) + (b1 && b2).toNat)).1.t2).length) p55_c3, .slice p55_4 (((bigS (b1 && b2) (val (outL (fun x y => x &&& y) (fun b c => b && c) b1 (x1 - b1.toNat) b2 (x2 - b2.toNat) ((words x1).length + (words x2).length + 1)) + (b1 && b2).toNat)).1.q2).length) p55_c4], .int .i64 ((bigS (b1 && b2) (val (outL (fun x y => x &&& y) (fun b c => b && c) b1 (x1 - b1.toNat) b2 (x2 - b2.toNat) ((words x1).length + (words x2).length + 1)) + (b1 && b2).toNat)).2)]) rfl rfl) ?_
    intro a hA
    refine seq_store (us := [.bool ((bigS (b1 && b2) (val (outL (fun x y => x &&& y) (fun b c => b && c) b1 (x1 - b1.toNat) b2 (x2 - b2.toNat) ((words x1).length + (words x2).length + 1)) + (b1 && b2).toNat)).1.b1), .slice p55_1 (((bigS (b1 && b2) (val (outL (fun x y => x &&& y) (fun b c => b && c) b1 (x1 - b1.toNat) b2 (x2 - b2.toNat) ((words x1).length + (words x2).length + 1)) + (b1 && b2).toNat)).1.t1).length) p55_c1, .slice p55_2 (((bigS (b1 && b2) (val (outL (fun x y => x &&& y) (fun b c => b && c) b1 (x1 - b1.toNat) b2 (x2 - b2.toNat) ((words x1).length + (words x2).length + 1)) + (b1 && b2).toNat)).1.q1).length) p55_c2, .bool ((bigS (b1 && b2) (val (outL (fun x y => x &&& y) (fun b c => b && c) b1 (x1 - b1.toNat) b2 (x2 - b2.toNat) ((words x1).length + (words x2).length + 1)) + (b1 && b2).toNat)).1.b2), .slice p55_3 (((bigS (b1 && b2) (val (outL (fun x y => x &&& y) (fun b c => b && c) b1 (x1 - b1.toNat) b2 (x2 - b2.toNat) ((words x1).length + (words x2).length + 1)) + (b1 && b2).toNat)).1.t2).length) p55_c3, .slice p55_4 (((bigS (b1 && b2) (val (outL (fun x y => x &&& y) (fun b c => b && c) b1 (x1 - b1.toNat) b2 (x2 - b2.toNat) ((words x1).length + (words x2).length + 1)) + (b1 && b2).toNat)).1.q2).length) p55_c4]) hA hS rfl rfl (sets_store (cs := [.bool ((bigS (b1 && b2) (val (outL (fun x y => x &&& y) (fun b c => b && c) b1 (x1 - b1.toNat) b2 (x2 - b2.toNat) ((words x1).length + (words x2).length + 1)) + (b1 && b2).toNat)).1.b1), .slice p55_1 (((bigS (b1 && b2) (val (outL (fun x y => x &&& y) (fun b c => b && c) b1 (x1 - b1.toNat) b2 (x2 - b2.toNat) ((words x1).length + (words x2).length + 1)) + (b1 && b2).toNat)).1.t1).length) p55_c1, .slice p55_2 (((bigS (b1 && b2) (val (outL (fun x y => x &&& y) (fun b c => b && c) b1 (x1 - b1.toNat) b2 (x2 - b2.toNat) ((words x1).length + (words x2).length + 1)) + (b1 && b2).toNat)).1.q1).length) p55_c2, .bool ((bigS (b1 && b2) (val (outL (fun x y => x &&& y) (fun b c => b && c) b1 (x1 - b1.toNat) b2 (x2 - b2.toNat) ((words x1).length + (words x2).length + 1)) + (b1 && b2).toNat)).1.b2), .slice p55_3 (((bigS (b1 && b2) (val (outL (fun x y => x &&& y) (fun b c => b && c) b1 (x1 - b1.toNat) b2 (x2 - b2.toNat) ((words x1).length + (words x2).length + 1)) + (b1 && b2).toNat)).1.t2).length) p55_c3, .slice p55_4 (((bigS (b1 && b2) (val (outL (fun x y => x &&& y) (fun b c => b && c) b1 (x1 - b1.toNat) b2 (x2 - b2.toNat) ((words x1).length + (words x2).length + 1)) + (b1 && b2).toNat)).1.q2).length) p55_c4]) rfl rfl rfl (by kernel_rfl) hS 1 rfl rfl rfl) 1 rfl rfl rfl rfl ?_
    intro w59 hS
    refine seq_do hA rfl rfl rfl (does_assign rfl) ?_
    intro a hA
    refine seq_end ?_
    refine hK54 _ _ ?_
    refine wp_ret ?_
    refine hret _ _ ?_
    refine ends (v := .tuple #[.agg #[.bool ((bigS (b1 && b2) (val (outL (fun x y => x &&& y) (fun b c => b && c) b1 (x1 - b1.toNat) b2 (x2 - b2.toNat) ((words x1).length + (words x2).length + 1)) + (b1 && b2).toNat)).1.b1), .slice p55_1 (((bigS (b1 && b2) (val (outL (fun x y => x &&& y) (fun b c => b && c) b1 (x1 - b1.toNat) b2 (x2 - b2.toNat) ((words x1).length + (words x2).length + 1)) + (b1 && b2).toNat)).1.t1).length) p55_c1, .slice p55_2 (((bigS (b1 && b2) (val (outL (fun x y => x &&& y) (fun b c => b && c) b1 (x1 - b1.toNat) b2 (x2 - b2.toNat) ((words x1).length + (words x2).length + 1)) + (b1 && b2).toNat)).1.q1).length) p55_c2, .bool ((bigS (b1 && b2) (val (outL (fun x y => x &&& y) (fun b c => b && c) b1 (x1 - b1.toNat) b2 (x2 - b2.toNat) ((words x1).length + (words x2).length + 1)) + (b1 && b2).toNat)).1.b2), .slice p55_3 (((bigS (b1 && b2) (val (outL (fun x y => x &&& y) (fun b c => b && c) b1 (x1 - b1.toNat) b2 (x2 - b2.toNat) ((words x1).length + (words x2).length + 1)) + (b1 && b2).toNat)).1.t2).length) p55_c3, .slice p55_4 (((bigS (b1 && b2) (val (outL (fun x y => x &&& y) (fun b c => b && c) b1 (x1 - b1.toNat) b2 (x2 - b2.toNat) ((words x1).length + (words x2).length + 1)) + (b1 && b2).toNat)).1.q2).length) p55_c4], .int .i64 ((bigS (b1 && b2) (val (outL (fun x y => x &&& y) (fun b c => b && c) b1 (x1 - b1.toNat) b2 (x2 - b2.toNat) ((words x1).length + (words x2).length + 1)) + (b1 && b2).toNat)).2)]) hA rfl (.cons (res_cell hS isS_26 rfl 1 rfl (cs := [.bool ((bigS (b1 && b2) (val (outL (fun x y => x &&& y) (fun b c => b && c) b1 (x1 - b1.toNat) b2 (x2 - b2.toNat) ((words x1).length + (words x2).length + 1)) + (b1 && b2).toNat)).1.b1), .slice p55_1 (((bigS (b1 && b2) (val (outL (fun x y => x &&& y) (fun b c => b && c) b1 (x1 - b1.toNat) b2 (x2 - b2.toNat) ((words x1).length + (words x2).length + 1)) + (b1 && b2).toNat)).1.t1).length) p55_c1, .slice p55_2 (((bigS (b1 && b2) (val (outL (fun x y => x &&& y) (fun b c => b && c) b1 (x1 - b1.toNat) b2 (x2 - b2.toNat) ((words x1).length + (words x2).length + 1)) + (b1 && b2).toNat)).1.q1).length) p55_c2, .bool ((bigS (b1 && b2) (val (outL (fun x y => x &&& y) (fun b c => b && c) b1 (x1 - b1.toNat) b2 (x2 - b2.toNat) ((words x1).length + (words x2).length + 1)) + (b1 && b2).toNat)).1.b2), .slice p55_3 (((bigS (b1 && b2) (val (outL (fun x y => x &&& y) (fun b c => b && c) b1 (x1 - b1.toNat) b2 (x2 - b2.toNat) ((words x1).length + (words x2).length + 1)) + (b1 && b2).toNat)).1.t2).length) p55_c3, .slice p55_4 (((bigS (b1 && b2) (val (outL (fun x y => x &&& y) (fun b c => b && c) b1 (x1 - b1.toNat) b2 (x2 - b2.toNat) ((words x1).length + (words x2).length + 1)) + (b1 && b2).toNat)).1.q2).length) p55_c4]) rfl rfl) (.cons (res_tmp rfl) .nil)) rfl ?_
    rw [bitQ_whole hw, ← put_val and_op (n := (words x1).length + (words x2).length + 1) (by have := sub_len (b := b1) (Nat.le_refl (words x1).length); omega) (by have := sub_len (b := b2) (Nat.le_refl (words x2).length); omega)]
    exact ⟨p55_1, p55_c1, p55_2, p55_c2, p55_3, p55_c3, p55_4, p55_c4, rfl, ⟨⟨(hS.rd 3 rfl), hn56.s1.nil, hn56.s1.cap⟩, ⟨(hS.rd 2 rfl), hn56.s2.nil, hn56.s2.cap⟩, ⟨(hS.rd 1 rfl), hn56.s3.nil, hn56.s3.cap⟩, ⟨(hS.rd 0 rfl), hn56.s4.nil, hn56.s4.cap⟩⟩, hS.bel⟩
theorem rorE_any {w : World} {p q : Q6} {a1 a2 a3 a4 : Option Addr} {ac1 ac2 ac3 ac4 : Nat} (ha : Nm w p a1 ac1 a2 ac2 a3 ac3 a4 ac4) (hl : LenQ p) {u1 u2 u3 u4 : Option Addr} {uc1 uc2 uc3 uc4 : Nat} (hu : Nm w q u1 uc1 u2 uc2 u3 uc3 u4 uc4) (hm : LenQ q)  (hw : (want2 p q != 0) = true) : Calls Try.prog 7 #[.int .i64 2, numV p a1 ac1 a2 ac2 a3 ac3 a4 ac4, numV q u1 uc1 u2 uc2 u3 uc3 u4 uc4] w (AnsN w (bitQ (fun x y => x ||| y) (fun b c => b || c) p q)) := by
  have hS : St w w [] [(u4, q.q2), (u3, q.t2), (u2, q.q1), (u1, q.t1), (a4, p.q2), (a3, p.t2), (a2, p.q1), (a1, p.t1)] [] := ((((((((St.start w).addR ha.s1.rd).addR ha.s2.rd).addR ha.s3.rd).addR ha.s4.rd).addR hu.s1.rd).addR hu.s2.rd).addR hu.s3.rd).addR hu.s4.rd
  refine walk_of (l := [(0, .int .i64 2), (1, .agg #[.bool p.b1, .slice a1 p.t1.length ac1, .slice a2 p.q1.length ac2, .bool p.b2, .slice a3 p.t2.length ac3, .slice a4 p.q2.length ac4]), (2, .agg #[.bool q.b1, .slice u1 q.t1.length uc1, .slice u2 q.q1.length uc2, .bool q.b2, .slice u3 q.t2.length uc3, .slice u4 q.q2.length uc4])]) Try.func7 rfl Try.ntmps7 rfl rfl ?_
  intro Q hret hnorm hP a hA
  refine wp_seq_k (fun K1 hK1 => ?_)
  refine wp_region_lit ?_
  refine seq_new (vs := [.bool p.b1, .slice a1 p.t1.length ac1, .slice a2 p.q1.length ac2, .bool p.b2, .slice a3 p.t2.length ac3, .slice a4 p.q2.length ac4]) (t := 26) hA hS rfl rfl rfl (fun g => .pointer (some ⟨g, 0, none⟩)) (does_box rfl rfl) rfl ?_
  intro g2 w3 hS a hA
  refine seq_new (vs := [.bool q.b1, .slice u1 q.t1.length uc1, .slice u2 q.q1.length uc2, .bool q.b2, .slice u3 q.t2.length uc3, .slice u4 q.q2.length uc4]) (t := 26) hA hS rfl rfl rfl (fun g => .pointer (some ⟨g, 0, none⟩)) (does_box rfl rfl) rfl ?_
  intro g4 w5 hS a hA
  refine seq_new (vs := [.bool false, .slice none 0 0, .slice none 0 0, .bool false, .slice none 0 0, .slice none 0 0]) (t := 26) hA hS rfl rfl rfl (fun g => .pointer (some ⟨g, 0, none⟩)) (does_alloc (z := .agg #[.bool false, .slice none 0 0, .slice none 0 0, .bool false, .slice none 0 0, .slice none 0 0]) (by kernel_rfl) rfl) rfl ?_
  intro g6 w7 hS a hA
  refine seq_do hA rfl rfl rfl (does_assign rfl) ?_
  intro a hA
  refine seq_end ?_
  refine hK1 _ _ ?_
  refine wp_seq_k (fun K8 hK8 => ?_)
  refine wp_region_lit ?_
  refine seq_do (v := .agg #[.bool p.b1, .slice a1 p.t1.length ac1, .slice a2 p.q1.length ac2, .bool p.b2, .slice a3 p.t2.length ac3, .slice a4 p.q2.length ac4]) hA rfl rfl rfl (does_loadS hS isS_26 rfl 2 rfl (cs := [.bool p.b1, .slice a1 p.t1.length ac1, .slice a2 p.q1.length ac2, .bool p.b2, .slice a3 p.t2.length ac3, .slice a4 p.q2.length ac4]) rfl rfl) ?_
  intro a hA
  refine seq_do (v := .agg #[.bool q.b1, .slice u1 q.t1.length uc1, .slice u2 q.q1.length uc2, .bool q.b2, .slice u3 q.t2.length uc3, .slice u4 q.q2.length uc4]) hA rfl rfl rfl (does_loadS hS isS_26 rfl 1 rfl (cs := [.bool q.b1, .slice u1 q.t1.length uc1, .slice u2 q.q1.length uc2, .bool q.b2, .slice u3 q.t2.length uc3, .slice u4 q.q2.length uc4]) rfl rfl) ?_
  intro a hA
  refine seq_new (vs := [.bool p.b1, .slice a1 p.t1.length ac1, .slice a2 p.q1.length ac2, .bool p.b2, .slice a3 p.t2.length ac3, .slice a4 p.q2.length ac4, .bool q.b1, .slice u1 q.t1.length uc1, .slice u2 q.q1.length uc2, .bool q.b2, .slice u3 q.t2.length uc3, .slice u4 q.q2.length uc4]) (t := 26) hA hS rfl rfl rfl (fun g => .slice (some ⟨g, 0, none⟩) 2 2) (does_buildSlice rfl (by kernel_rfl)) rfl ?_
  intro g9 w10 hS a hA
  refine seq_call hA rfl rfl rfl (enters_func  rfl rfl (fun w => by kernel_rfl)) (rcheck2_any (show Nm _ p a1 ac1 a2 ac2 a3 ac3 a4 ac4 from ⟨⟨(hS.rd 7 rfl), ha.s1.nil, ha.s1.cap⟩, ⟨(hS.rd 6 rfl), ha.s2.nil, ha.s2.cap⟩, ⟨(hS.rd 5 rfl), ha.s3.nil, ha.s3.cap⟩, ⟨(hS.rd 4 rfl), ha.s4.nil, ha.s4.cap⟩⟩) hl (show Nm _ q u1 uc1 u2 uc2 u3 uc3 u4 uc4 from ⟨⟨(hS.rd 3 rfl), hu.s1.nil, hu.s1.cap⟩, ⟨(hS.rd 2 rfl), hu.s2.nil, hu.s2.cap⟩, ⟨(hS.rd 1 rfl), hu.s3.nil, hu.s3.cap⟩, ⟨(hS.rd 0 rfl), hu.s4.nil, hu.s4.cap⟩⟩) hm (hS.blk 0 rfl) rfl) ?_
  rintro _ w12 ⟨rfl, hb11⟩
  replace hS := hS.call hb11
  refine ⟨_, rfl, ?_⟩
  intro a hA
  refine seq_do hA rfl rfl rfl (does_assign rfl) ?_
  intro a hA
  refine seq_end ?_
  refine hK8 _ _ ?_
  refine wp_seq_k (fun K13 hK13 => ?_)
  refine wp_seq_k (fun K14 hK14 => ?_)
  refine wp_region_lit ?_
  refine seq_do hA rfl rfl rfl (does_move rfl) ?_
  intro a hA
  refine seq_do (v := .bool true) hA rfl rfl rfl (does_bin rfl rfl (fun w => (bin_neq w).trans (by rw [show ((want2 p q != 0)) = true from hw]))) ?_
  intro a hA
  refine seq_end ?_
  refine hK14 _ _ ?_
  refine wp_cond_true (hA.ev rfl) ?_
  refine wp_seq_k (fun K15 hK15 => ?_)
  refine wp_region_lit ?_
  refine seq_do (v := .agg #[.bool false, .slice none 0 0, .slice none 0 0, .bool false, .slice none 0 0, .slice none 0 0]) hA rfl rfl rfl (does_build rfl (fun w => by kernel_rfl)) ?_
  intro a hA
  refine seq_do hA rfl rfl rfl (does_move rfl) ?_
  intro a hA
  refine seq_store (us := [.bool false, .slice none 0 0, .slice none 0 0, .bool false, .slice none 0 0, .slice none 0 0]) hA hS rfl rfl (sets_store (cs := [.bool false, .slice none 0 0, .slice none 0 0, .bool false, .slice none 0 0, .slice none 0 0]) rfl rfl rfl (by kernel_rfl) hS 1 rfl rfl rfl) 1 rfl rfl rfl rfl ?_
  intro w16 hS
  refine seq_do hA rfl rfl rfl (does_assign rfl) ?_
  intro a hA
  refine seq_end ?_
  refine hK15 _ _ ?_
  refine wp_ret ?_
  refine hret _ _ ?_
  refine ends (v := .tuple #[.agg #[.bool false, .slice none 0 0, .slice none 0 0, .bool false, .slice none 0 0, .slice none 0 0], .int .i64 (want2 p q)]) hA rfl (.cons (res_cell hS isS_26 rfl 1 rfl (cs := [.bool false, .slice none 0 0, .slice none 0 0, .bool false, .slice none 0 0, .slice none 0 0]) rfl rfl) (.cons (res_tmp rfl) .nil)) rfl ?_
  rw [bitQ_err hw]
  exact ⟨none, 0, none, 0, none, 0, none, 0, rfl, ⟨(Sc.none _), (Sc.none _), (Sc.none _), (Sc.none _)⟩, hS.bel⟩
theorem rorW_any {w : World} {b1 b2 : Bool} {x1 x2 : Nat} {a1 a2 a3 a4 : Option Addr} {ac1 ac2 ac3 ac4 : Nat} (ha : Nm w (Q6.whole b1 x1) a1 ac1 a2 ac2 a3 ac3 a4 ac4) (hl : LenQ (Q6.whole b1 x1)) {u1 u2 u3 u4 : Option Addr} {uc1 uc2 uc3 uc4 : Nat} (hu : Nm w (Q6.whole b2 x2) u1 uc1 u2 uc2 u3 uc3 u4 uc4) (hm : LenQ (Q6.whole b2 x2))  (hw : want2 (Q6.whole b1 x1) (Q6.whole b2 x2) = 0) (hx1 : (words x1).length ≤ 512) (hb1 : b1.toNat ≤ x1) (hx2 : (words x2).length ≤ 512) (hb2 : b2.toNat ≤ x2) : Calls Try.prog 7 #[.int .i64 2, numV (Q6.whole b1 x1) a1 ac1 a2 ac2 a3 ac3 a4 ac4, numV (Q6.whole b2 x2) u1 uc1 u2 uc2 u3 uc3 u4 uc4] w (AnsN w (bitQ (fun x y => x ||| y) (fun b c => b || c) (Q6.whole b1 x1) (Q6.whole b2 x2))) := by
  have hS : St w w [] [(u4, [1]), (u3, []), (u2, [1]), (u1, words x2), (a4, [1]), (a3, []), (a2, [1]), (a1, words x1)] [] := ((((((((St.start w).addR ha.s1.rd).addR ha.s2.rd).addR ha.s3.rd).addR ha.s4.rd).addR hu.s1.rd).addR hu.s2.rd).addR hu.s3.rd).addR hu.s4.rd
  refine walk_of (l := [(0, .int .i64 2), (1, .agg #[.bool b1, .slice a1 ((words x1).length) ac1, .slice a2 1 ac2, .bool false, .slice a3 0 ac3, .slice a4 1 ac4]), (2, .agg #[.bool b2, .slice u1 ((words x2).length) uc1, .slice u2 1 uc2, .bool false, .slice u3 0 uc3, .slice u4 1 uc4])]) Try.func7 rfl Try.ntmps7 rfl rfl ?_
  intro Q hret hnorm hP a hA
  refine wp_seq_k (fun K1 hK1 => ?_)
  refine wp_region_lit ?_
  refine seq_new (vs := [.bool b1, .slice a1 ((words x1).length) ac1, .slice a2 1 ac2, .bool false, .slice a3 0 ac3, .slice a4 1 ac4]) (t := 26) hA hS rfl rfl rfl (fun g => .pointer (some ⟨g, 0, none⟩)) (does_box rfl rfl) rfl ?_
  intro g2 w3 hS a hA
  refine seq_new (vs := [.bool b2, .slice u1 ((words x2).length) uc1, .slice u2 1 uc2, .bool false, .slice u3 0 uc3, .slice u4 1 uc4]) (t := 26) hA hS rfl rfl rfl (fun g => .pointer (some ⟨g, 0, none⟩)) (does_box rfl rfl) rfl ?_
  intro g4 w5 hS a hA
  refine seq_new (vs := [.bool false, .slice none 0 0, .slice none 0 0, .bool false, .slice none 0 0, .slice none 0 0]) (t := 26) hA hS rfl rfl rfl (fun g => .pointer (some ⟨g, 0, none⟩)) (does_alloc (z := .agg #[.bool false, .slice none 0 0, .slice none 0 0, .bool false, .slice none 0 0, .slice none 0 0]) (by kernel_rfl) rfl) rfl ?_
  intro g6 w7 hS a hA
  refine seq_do hA rfl rfl rfl (does_assign rfl) ?_
  intro a hA
  refine seq_end ?_
  refine hK1 _ _ ?_
  refine wp_seq_k (fun K8 hK8 => ?_)
  refine wp_region_lit ?_
  refine seq_do (v := .agg #[.bool b1, .slice a1 ((words x1).length) ac1, .slice a2 1 ac2, .bool false, .slice a3 0 ac3, .slice a4 1 ac4]) hA rfl rfl rfl (does_loadS hS isS_26 rfl 2 rfl (cs := [.bool b1, .slice a1 ((words x1).length) ac1, .slice a2 1 ac2, .bool false, .slice a3 0 ac3, .slice a4 1 ac4]) rfl rfl) ?_
  intro a hA
  refine seq_do (v := .agg #[.bool b2, .slice u1 ((words x2).length) uc1, .slice u2 1 uc2, .bool false, .slice u3 0 uc3, .slice u4 1 uc4]) hA rfl rfl rfl (does_loadS hS isS_26 rfl 1 rfl (cs := [.bool b2, .slice u1 ((words x2).length) uc1, .slice u2 1 uc2, .bool false, .slice u3 0 uc3, .slice u4 1 uc4]) rfl rfl) ?_
  intro a hA
  refine seq_new (vs := [.bool b1, .slice a1 ((words x1).length) ac1, .slice a2 1 ac2, .bool false, .slice a3 0 ac3, .slice a4 1 ac4, .bool b2, .slice u1 ((words x2).length) uc1, .slice u2 1 uc2, .bool false, .slice u3 0 uc3, .slice u4 1 uc4]) (t := 26) hA hS rfl rfl rfl (fun g => .slice (some ⟨g, 0, none⟩) 2 2) (does_buildSlice rfl (by kernel_rfl)) rfl ?_
  intro g9 w10 hS a hA
  refine seq_call hA rfl rfl rfl (enters_func  rfl rfl (fun w => by kernel_rfl)) (rcheck2_any (show Nm _ (Q6.whole b1 x1) a1 ac1 a2 ac2 a3 ac3 a4 ac4 from ⟨⟨(hS.rd 7 rfl), ha.s1.nil, ha.s1.cap⟩, ⟨(hS.rd 6 rfl), ha.s2.nil, ha.s2.cap⟩, ⟨(hS.rd 5 rfl), ha.s3.nil, ha.s3.cap⟩, ⟨(hS.rd 4 rfl), ha.s4.nil, ha.s4.cap⟩⟩) hl (show Nm _ (Q6.whole b2 x2) u1 uc1 u2 uc2 u3 uc3 u4 uc4 from ⟨⟨(hS.rd 3 rfl), hu.s1.nil, hu.s1.cap⟩, ⟨(hS.rd 2 rfl), hu.s2.nil, hu.s2.cap⟩, ⟨(hS.rd 1 rfl), hu.s3.nil, hu.s3.cap⟩, ⟨(hS.rd 0 rfl), hu.s4.nil, hu.s4.cap⟩⟩) hm (hS.blk 0 rfl) hw) ?_
  rintro _ w12 ⟨rfl, hb11⟩
  replace hS := hS.call hb11
  refine ⟨_, rfl, ?_⟩
  intro a hA
  refine seq_do hA rfl rfl rfl (does_assign rfl) ?_
  intro a hA
  refine seq_end ?_
  refine hK8 _ _ ?_
  refine wp_seq_k (fun K13 hK13 => ?_)
  refine wp_seq_k (fun K14 hK14 => ?_)
  refine wp_region_lit ?_
  refine seq_do hA rfl rfl rfl (does_move rfl) ?_
  intro a hA
  refine seq_do (v := .bool false) hA rfl rfl rfl (does_bin rfl rfl (fun w => by kernel_rfl)) ?_
  intro a hA
  refine seq_end ?_
  refine hK14 _ _ ?_
  refine wp_cond_false (hA.ev rfl) ?_
  refine wp_skip ?_
  refine hK13 _ _ ?_
  refine wp_seq_k (fun K15 hK15 => ?_)
  refine wp_region_lit ?_
  refine seq_do (v := .pointer (some ⟨g2, 0, none⟩)) hA rfl rfl rfl (does_field fld_26_0 rfl rfl) ?_
  intro a hA
  refine seq_do (v := .pointer (some ⟨g2, 1, none⟩)) hA rfl rfl rfl (does_field fld_24_1 rfl rfl) ?_
  intro a hA
  refine seq_do hA rfl rfl rfl (does_load1 hS is1_22 rfl 3 rfl rfl) ?_
  intro a hA
  refine seq_do (v := .int .i64 ((((words x1).length : Nat) : Int))) hA rfl rfl rfl (does_len Try.underlying22 rfl) ?_
  intro a hA
  refine seq_do (v := .pointer (some ⟨g4, 0, none⟩)) hA rfl rfl rfl (does_field fld_26_0 rfl rfl) ?_
  intro a hA
  refine seq_do (v := .pointer (some ⟨g4, 1, none⟩)) hA rfl rfl rfl (does_field fld_24_1 rfl rfl) ?_
  intro a hA
  refine seq_do hA rfl rfl rfl (does_load1 hS is1_22 rfl 2 rfl rfl) ?_
  intro a hA
  refine seq_do (v := .int .i64 ((((words x2).length : Nat) : Int))) hA rfl rfl rfl (does_len Try.underlying22 rfl) ?_
  intro a hA
  refine seq_do (v := .int .i64 ((((words x1).length + (words x2).length : Nat) : Int))) hA rfl rfl rfl (does_bin rfl rfl (fun w => (bin_add (i64In (by omega) (by omega)) w).trans (by rw [show ((((words x1).length : Nat) : Int) + (((words x2).length : Nat) : Int) : Int) = (((words x1).length + (words x2).length : Nat) : Int) from by omega]))) ?_
  intro a hA
  refine seq_do (v := .int .i64 ((((words x1).length + (words x2).length + 1 : Nat) : Int))) hA rfl rfl rfl (does_bin rfl rfl (fun w => (bin_add (i64In (by omega) (by omega)) w).trans (by rw [show ((((words x1).length + (words x2).length : Nat) : Int) + 1 : Int) = (((words x1).length + (words x2).length + 1 : Nat) : Int) from by omega]))) ?_
  intro a hA
  refine seq_do hA rfl rfl rfl (does_assign rfl) ?_
  intro a hA
  refine seq_end ?_
  refine hK15 _ _ ?_
  refine wp_seq_k (fun K16 hK16 => ?_)
  refine wp_draw (S := fun w1 => St w w1 [(g9, [.bool b1, .slice a1 ((words x1).length) ac1, .slice a2 1 ac2, .bool false, .slice a3 0 ac3, .slice a4 1 ac4, .bool b2, .slice u1 ((words x2).length) uc1, .slice u2 1 uc2, .bool false, .slice u3 0 uc3, .slice u4 1 uc4]), (g6, [.bool false, .slice none 0 0, .slice none 0 0, .bool false, .slice none 0 0, .slice none 0 0]), (g4, [.bool b2, .slice u1 ((words x2).length) uc1, .slice u2 1 uc2, .bool false, .slice u3 0 uc3, .slice u4 1 uc4]), (g2, [.bool b1, .slice a1 ((words x1).length) ac1, .slice a2 1 ac2, .bool false, .slice a3 0 ac3, .slice a4 1 ac4])] [(u4, [1]), (u3, []), (u2, [1]), (u1, words x2), (a4, [1]), (a3, []), (a2, [1]), (a1, words x1)] []) (by kernel_rfl) ?_
  replace hS := hS.drew
  refine any_take (v := .agg #[.bool b1, .slice a1 ((words x1).length) ac1, .slice a2 1 ac2, .bool false, .slice a3 0 ac3, .slice a4 1 ac4]) hA 0 rfl rfl rfl rfl (by kernel_rfl) (by kernel_rfl) (by kernel_rfl) (fun c a w h => hP c a _ _ w h) (hS.part (.cons_cons _ (.cons_cons _ (.cons_cons _ (.cons_cons _ .slnil)))) ⟨⟨0, rfl⟩, ⟨⟨1, rfl⟩, ⟨⟨2, rfl⟩, ⟨⟨3, rfl⟩, ⟨⟨4, rfl⟩, ⟨⟨5, rfl⟩, ⟨⟨6, rfl⟩, ⟨⟨7, rfl⟩, trivial⟩⟩⟩⟩⟩⟩⟩⟩ .slnil) (fun w1 hS => does_loadS hS isS_26 rfl 3 rfl (cs := [.bool b1, .slice a1 ((words x1).length) ac1, .slice a2 1 ac2, .bool false, .slice a3 0 ac3, .slice a4 1 ac4]) rfl rfl) ?_
  intro a hA
  refine any_take hA 1 rfl rfl rfl rfl (by kernel_rfl) (by kernel_rfl) (by kernel_rfl) (fun c a w h => hP c a _ _ w h) (hS.part (.cons_cons _ (.cons_cons _ (.cons_cons _ (.cons_cons _ .slnil)))) ⟨⟨0, rfl⟩, ⟨⟨1, rfl⟩, ⟨⟨2, rfl⟩, ⟨⟨3, rfl⟩, ⟨⟨4, rfl⟩, ⟨⟨5, rfl⟩, ⟨⟨6, rfl⟩, ⟨⟨7, rfl⟩, trivial⟩⟩⟩⟩⟩⟩⟩⟩ .slnil) (fun w1 hS => does_move rfl) ?_
  intro a hA
  refine any_take (v := .agg #[.bool b2, .slice u1 ((words x2).length) uc1, .slice u2 1 uc2, .bool false, .slice u3 0 uc3, .slice u4 1 uc4]) hA 3 rfl rfl rfl rfl (by kernel_rfl) (by kernel_rfl) (by kernel_rfl) (fun c a w h => hP c a _ _ w h) (hS.part (.cons_cons _ (.cons_cons _ (.cons_cons _ (.cons_cons _ .slnil)))) ⟨⟨0, rfl⟩, ⟨⟨1, rfl⟩, ⟨⟨2, rfl⟩, ⟨⟨3, rfl⟩, ⟨⟨4, rfl⟩, ⟨⟨5, rfl⟩, ⟨⟨6, rfl⟩, ⟨⟨7, rfl⟩, trivial⟩⟩⟩⟩⟩⟩⟩⟩ .slnil) (fun w1 hS => does_loadS hS isS_26 rfl 2 rfl (cs := [.bool b2, .slice u1 ((words x2).length) uc1, .slice u2 1 uc2, .bool false, .slice u3 0 uc3, .slice u4 1 uc4]) rfl rfl) ?_
  intro a hA
  refine any_take hA 4 rfl rfl rfl rfl (by kernel_rfl) (by kernel_rfl) (by kernel_rfl) (fun c a w h => hP c a _ _ w h) (hS.part (.cons_cons _ (.cons_cons _ (.cons_cons _ (.cons_cons _ .slnil)))) ⟨⟨0, rfl⟩, ⟨⟨1, rfl⟩, ⟨⟨2, rfl⟩, ⟨⟨3, rfl⟩, ⟨⟨4, rfl⟩, ⟨⟨5, rfl⟩, ⟨⟨6, rfl⟩, ⟨⟨7, rfl⟩, trivial⟩⟩⟩⟩⟩⟩⟩⟩ .slnil) (fun w1 hS => does_move rfl) ?_
  intro a hA
  refine any_one (by kernel_rfl) (op_call hA 2 rfl rfl rfl rfl (enters_func  rfl rfl (fun w => by kernel_rfl)) (rrow_any (show Nm _ (Q6.whole b1 x1) a1 ac1 a2 ac2 a3 ac3 a4 ac4 from ⟨⟨(hS.rd 7 rfl), ha.s1.nil, ha.s1.cap⟩, ⟨(hS.rd 6 rfl), ha.s2.nil, ha.s2.cap⟩, ⟨(hS.rd 5 rfl), ha.s3.nil, ha.s3.cap⟩, ⟨(hS.rd 4 rfl), ha.s4.nil, ha.s4.cap⟩⟩) hx1 hb1 (by omega)) ?_)
  rintro _ w21 ⟨ro17, rc18, rfl, ho19, hb20⟩
  replace hS := hS.call hb20
  replace hS := hS.addR ho19.rd
  refine ⟨_, rfl, (hS.part (.cons_cons _ (.cons_cons _ (.cons_cons _ (.cons_cons _ .slnil)))) ⟨⟨1, rfl⟩, ⟨⟨2, rfl⟩, ⟨⟨3, rfl⟩, ⟨⟨4, rfl⟩, ⟨⟨5, rfl⟩, ⟨⟨6, rfl⟩, ⟨⟨7, rfl⟩, ⟨⟨8, rfl⟩, trivial⟩⟩⟩⟩⟩⟩⟩⟩ .slnil), ?_⟩
  intro a hA
  refine any_one (by kernel_rfl) (op_call hA 5 rfl rfl rfl rfl (enters_func  rfl rfl (fun w => by kernel_rfl)) (rrow_any (show Nm _ (Q6.whole b2 x2) u1 uc1 u2 uc2 u3 uc3 u4 uc4 from ⟨⟨(hS.rd 4 rfl), hu.s1.nil, hu.s1.cap⟩, ⟨(hS.rd 3 rfl), hu.s2.nil, hu.s2.cap⟩, ⟨(hS.rd 2 rfl), hu.s3.nil, hu.s3.cap⟩, ⟨(hS.rd 1 rfl), hu.s4.nil, hu.s4.cap⟩⟩) hx2 hb2 (by omega)) ?_)
  rintro _ w26 ⟨ro22, rc23, rfl, ho24, hb25⟩
  replace hS := hS.call hb25
  replace hS := hS.addR ho24.rd
  refine ⟨_, rfl, (hS.part (.cons_cons _ (.cons_cons _ (.cons_cons _ (.cons_cons _ .slnil)))) ⟨⟨2, rfl⟩, ⟨⟨3, rfl⟩, ⟨⟨4, rfl⟩, ⟨⟨5, rfl⟩, ⟨⟨6, rfl⟩, ⟨⟨7, rfl⟩, ⟨⟨8, rfl⟩, ⟨⟨9, rfl⟩, trivial⟩⟩⟩⟩⟩⟩⟩⟩ .slnil), ?_⟩
  intro a hA
  refine any_take hA 6 rfl rfl rfl rfl (by kernel_rfl) (by kernel_rfl) (by kernel_rfl) (fun c a w h => hP c a _ _ w h) (hS.part (.cons_cons _ (.cons_cons _ (.cons_cons _ (.cons_cons _ .slnil)))) ⟨⟨2, rfl⟩, ⟨⟨3, rfl⟩, ⟨⟨4, rfl⟩, ⟨⟨5, rfl⟩, ⟨⟨6, rfl⟩, ⟨⟨7, rfl⟩, ⟨⟨8, rfl⟩, ⟨⟨9, rfl⟩, trivial⟩⟩⟩⟩⟩⟩⟩⟩ .slnil) (fun w1 hS => does_assign rfl) ?_
  intro a hA
  refine any_take hA 7 rfl rfl rfl rfl (by kernel_rfl) (by kernel_rfl) (by kernel_rfl) (fun c a w h => hP c a _ _ w h) (hS.part (.cons_cons _ (.cons_cons _ (.cons_cons _ (.cons_cons _ .slnil)))) ⟨⟨2, rfl⟩, ⟨⟨3, rfl⟩, ⟨⟨4, rfl⟩, ⟨⟨5, rfl⟩, ⟨⟨6, rfl⟩, ⟨⟨7, rfl⟩, ⟨⟨8, rfl⟩, ⟨⟨9, rfl⟩, trivial⟩⟩⟩⟩⟩⟩⟩⟩ .slnil) (fun w1 hS => does_assign rfl) ?_
  intro a hA
  refine any_end (by kernel_rfl) ?_
  refine hK16 _ _ ?_
  refine wp_seq_k (fun K27 hK27 => ?_)
  refine wp_region_lit ?_
  refine seq_empty hA hS rfl rfl rfl (does_buildSlice rfl (by kernel_rfl)) ?_
  intro g28 w29 hS a hA
  refine seq_do hA rfl rfl rfl (does_assign rfl) ?_
  intro a hA
  refine seq_end ?_
  refine hK27 _ _ ?_
  refine wp_seq_k (fun K30 hK30 => ?_)
  refine wp_seq_k (fun K31 hK31 => ?_)
  refine wp_region_lit ?_
  refine seq_do hA rfl rfl rfl (does_assign rfl) ?_
  intro a hA
  refine seq_end ?_
  refine hK31 _ _ ?_
  refine wp_block ?_
  refine wp_loop_n (fun m a w1 => ∃ (i : Nat) (ro : Option Addr) (rc : Nat), m = (words x1).length + (words x2).length + 1 - i ∧ (i ≤ (words x1).length + (words x2).length + 1) ∧ Sl a 89 [(0, .int .i64 2), (1, .agg #[.bool b1, .slice a1 ((words x1).length) ac1, .slice a2 1 ac2, .bool false, .slice a3 0 ac3, .slice a4 1 ac4]), (2, .agg #[.bool b2, .slice u1 ((words x2).length) uc1, .slice u2 1 uc2, .bool false, .slice u3 0 uc3, .slice u4 1 uc4]), (4, .pointer (some ⟨g2, 0, none⟩)), (5, .pointer (some ⟨g4, 0, none⟩)), (6, .pointer (some ⟨g6, 0, none⟩)), (7, .int .i64 0), (8, .int .i64 0), (9, .int .i64 ((((words x1).length + (words x2).length + 1 : Nat) : Int))), (10, .slice ro17 ((rowL b1 (x1 - b1.toNat) ((words x1).length + (words x2).length + 1)).length) rc18), (11, .slice ro22 ((rowL b2 (x2 - b2.toNat) ((words x1).length + (words x2).length + 1)).length) rc23), (12, .slice ro ((((List.range ((words x1).length + (words x2).length + 1)).map (fun i => rwd b1 (x1 - b1.toNat) i ||| rwd b2 (x2 - b2.toNat) i)).take i).length) rc), (13, .int .i64 (((i : Nat) : Int))), (14, .agg #[.bool b1, .slice a1 ((words x1).length) ac1, .slice a2 1 ac2, .bool false, .slice a3 0 ac3, .slice a4 1 ac4]), (15, .agg #[.bool b2, .slice u1 ((words x2).length) uc1, .slice u2 1 uc2, .bool false, .slice u3 0 uc3, .slice u4 1 uc4]), (16, .slice (some ⟨g9, 0, none⟩) 2 2), (17, .int .i64 0), (18, .int .i64 0), (19, .bool false), (22, .pointer (some ⟨g2, 0, none⟩)), (23, .pointer (some ⟨g2, 1, none⟩)), (24, .slice a1 ((words x1).length) ac1), (25, .int .i64 ((((words x1).length : Nat) : Int))), (26, .pointer (some ⟨g4, 0, none⟩)), (27, .pointer (some ⟨g4, 1, none⟩)), (28, .slice u1 ((words x2).length) uc1), (29, .int .i64 ((((words x2).length : Nat) : Int))), (30, .int .i64 ((((words x1).length + (words x2).length : Nat) : Int))), (31, .int .i64 ((((words x1).length + (words x2).length + 1 : Nat) : Int))), (32, .agg #[.bool b1, .slice a1 ((words x1).length) ac1, .slice a2 1 ac2, .bool false, .slice a3 0 ac3, .slice a4 1 ac4]), (33, .int .i64 ((((words x1).length + (words x2).length + 1 : Nat) : Int))), (34, .slice ro17 ((rowL b1 (x1 - b1.toNat) ((words x1).length + (words x2).length + 1)).length) rc18), (35, .agg #[.bool b2, .slice u1 ((words x2).length) uc1, .slice u2 1 uc2, .bool false, .slice u3 0 uc3, .slice u4 1 uc4]), (36, .int .i64 ((((words x1).length + (words x2).length + 1 : Nat) : Int))), (37, .slice ro22 ((rowL b2 (x2 - b2.toNat) ((words x1).length + (words x2).length + 1)).length) rc23), (38, .slice (some ⟨g28, 0, none⟩) 0 0)] ∧ St w w1 [(g9, [.bool b1, .slice a1 ((words x1).length) ac1, .slice a2 1 ac2, .bool false, .slice a3 0 ac3, .slice a4 1 ac4, .bool b2, .slice u1 ((words x2).length) uc1, .slice u2 1 uc2, .bool false, .slice u3 0 uc3, .slice u4 1 uc4]), (g6, [.bool false, .slice none 0 0, .slice none 0 0, .bool false, .slice none 0 0, .slice none 0 0]), (g4, [.bool b2, .slice u1 ((words x2).length) uc1, .slice u2 1 uc2, .bool false, .slice u3 0 uc3, .slice u4 1 uc4]), (g2, [.bool b1, .slice a1 ((words x1).length) ac1, .slice a2 1 ac2, .bool false, .slice a3 0 ac3, .slice a4 1 ac4])] [(ro22, rowL b2 (x2 - b2.toNat) ((words x1).length + (words x2).length + 1)), (ro17, rowL b1 (x1 - b1.toNat) ((words x1).length + (words x2).length + 1)), (u4, [1]), (u3, []), (u2, [1]), (u1, words x2), (a4, [1]), (a3, []), (a2, [1]), (a1, words x1)] [(ro, rc, ((List.range ((words x1).length + (words x2).length + 1)).map (fun i => rwd b1 (x1 - b1.toNat) i ||| rwd b2 (x2 - b2.toNat) i)).take i)]) _ ⟨0, some ⟨g28, 0, none⟩, 0, rfl, (Nat.zero_le _), hA.keep _ ⟨rfl, rfl, rfl, rfl, rfl, rfl, rfl, rfl, rfl, rfl, rfl, rfl, rfl, rfl, rfl, rfl, rfl, rfl, rfl, rfl, rfl, rfl, rfl, rfl, rfl, rfl, rfl, rfl, rfl, rfl, rfl, rfl, rfl, rfl, rfl, rfl, trivial⟩, hS⟩ ?_
  clear hS hA
  rintro m a w32 ⟨i, ro, rc, rfl, hinv34, hA, hS⟩ K33 hK33
  have htl9 : (((List.range ((words x1).length + (words x2).length + 1)).map (fun i => rwd b1 (x1 - b1.toNat) i ||| rwd b2 (x2 - b2.toNat) i)).take i).length ≤ (words x1).length + (words x2).length + 1 := by rw [List.length_take, mapr_len]; omega
  refine wp_seq_k (fun K35 hK35 => ?_)
  refine wp_seq_k (fun K36 hK36 => ?_)
  refine wp_region_lit ?_
  refine seq_do hA rfl rfl rfl (does_move rfl) ?_
  intro a hA
  refine seq_do hA rfl rfl rfl (does_move rfl) ?_
  intro a hA
  rcases Bool.eq_false_or_eq_true (decide (((i : Nat) : Int) < (((words x1).length + (words x2).length + 1 : Nat) : Int))) with hb37 | hb37
  · have hb37' := of_decide_eq_true hb37
    refine seq_do (v := .bool true) hA rfl rfl rfl (does_bin rfl rfl (fun w => (bin_lss w).trans (by rw [hb37]))) ?_
    intro a hA
    refine seq_end ?_
    refine hK36 _ _ ?_
    refine wp_cond_true (hA.ev rfl) ?_
    refine wp_skip ?_
    refine hK35 _ _ ?_
    refine wp_seq_k (fun K38 hK38 => ?_)
    refine wp_block ?_
    refine wp_seq_k (fun K39 hK39 => ?_)
    refine wp_region_lit ?_
    refine seq_do hA rfl rfl rfl (does_move rfl) ?_
    intro a hA
    refine seq_end ?_
    refine hK39 _ _ ?_
    refine wp_block ?_
    refine wp_seq_k (fun K40 hK40 => ?_)
    refine wp_region_lit ?_
    refine seq_do (v := .bool false) hA rfl rfl rfl (does_bin rfl rfl (fun w => by kernel_rfl)) ?_
    intro a hA
    refine seq_do hA rfl rfl rfl (does_assign rfl) ?_
    intro a hA
    refine seq_end ?_
    refine hK40 _ _ ?_
    refine wp_cond_false (hA.ev rfl) ?_
    refine wp_seq_k (fun K41 hK41 => ?_)
    refine wp_region_lit ?_
    refine seq_do (v := .bool true) hA rfl rfl rfl (does_bin rfl rfl (fun w => by kernel_rfl)) ?_
    intro a hA
    refine seq_do hA rfl rfl rfl (does_assign rfl) ?_
    intro a hA
    refine seq_end ?_
    refine hK41 _ _ ?_
    refine wp_cond_true (hA.ev rfl) ?_
    refine wp_draw (S := fun w1 => St w w1 [(g9, [.bool b1, .slice a1 ((words x1).length) ac1, .slice a2 1 ac2, .bool false, .slice a3 0 ac3, .slice a4 1 ac4, .bool b2, .slice u1 ((words x2).length) uc1, .slice u2 1 uc2, .bool false, .slice u3 0 uc3, .slice u4 1 uc4]), (g6, [.bool false, .slice none 0 0, .slice none 0 0, .bool false, .slice none 0 0, .slice none 0 0]), (g4, [.bool b2, .slice u1 ((words x2).length) uc1, .slice u2 1 uc2, .bool false, .slice u3 0 uc3, .slice u4 1 uc4]), (g2, [.bool b1, .slice a1 ((words x1).length) ac1, .slice a2 1 ac2, .bool false, .slice a3 0 ac3, .slice a4 1 ac4])] [(ro22, rowL b2 (x2 - b2.toNat) ((words x1).length + (words x2).length + 1)), (ro17, rowL b1 (x1 - b1.toNat) ((words x1).length + (words x2).length + 1)), (u4, [1]), (u3, []), (u2, [1]), (u1, words x2), (a4, [1]), (a3, []), (a2, [1]), (a1, words x1)] []) (by kernel_rfl) ?_
    replace hS := hS.drew
    refine any_take hA 0 rfl rfl rfl rfl (by kernel_rfl) (by kernel_rfl) (by kernel_rfl) (fun c a w h => hP c a _ _ w h) (hS.part (.cons_cons _ (.cons_cons _ (.cons_cons _ (.cons_cons _ .slnil)))) ⟨⟨0, rfl⟩, ⟨⟨1, rfl⟩, ⟨⟨2, rfl⟩, ⟨⟨3, rfl⟩, ⟨⟨4, rfl⟩, ⟨⟨5, rfl⟩, ⟨⟨6, rfl⟩, ⟨⟨7, rfl⟩, ⟨⟨8, rfl⟩, ⟨⟨9, rfl⟩, trivial⟩⟩⟩⟩⟩⟩⟩⟩⟩⟩ (.cons _ .slnil)) (fun w1 hS => does_move rfl) ?_
    intro a hA
    refine any_take hA 1 rfl rfl rfl rfl (by kernel_rfl) (by kernel_rfl) (by kernel_rfl) (fun c a w h => hP c a _ _ w h) (hS.part (.cons_cons _ (.cons_cons _ (.cons_cons _ (.cons_cons _ .slnil)))) ⟨⟨0, rfl⟩, ⟨⟨1, rfl⟩, ⟨⟨2, rfl⟩, ⟨⟨3, rfl⟩, ⟨⟨4, rfl⟩, ⟨⟨5, rfl⟩, ⟨⟨6, rfl⟩, ⟨⟨7, rfl⟩, ⟨⟨8, rfl⟩, ⟨⟨9, rfl⟩, trivial⟩⟩⟩⟩⟩⟩⟩⟩⟩⟩ (.cons _ .slnil)) (fun w1 hS => does_move rfl) ?_
    intro a hA
    refine any_take hA 2 rfl rfl rfl rfl (by kernel_rfl) (by kernel_rfl) (by kernel_rfl) (fun c a w h => hP c a _ _ w h) (hS.part (.cons_cons _ (.cons_cons _ (.cons_cons _ (.cons_cons _ .slnil)))) ⟨⟨0, rfl⟩, ⟨⟨1, rfl⟩, ⟨⟨2, rfl⟩, ⟨⟨3, rfl⟩, ⟨⟨4, rfl⟩, ⟨⟨5, rfl⟩, ⟨⟨6, rfl⟩, ⟨⟨7, rfl⟩, ⟨⟨8, rfl⟩, ⟨⟨9, rfl⟩, trivial⟩⟩⟩⟩⟩⟩⟩⟩⟩⟩ (.cons _ .slnil)) (fun w1 hS => does_move rfl) ?_
    intro a hA
    have hi45 : i < (rowL b1 (x1 - b1.toNat) ((words x1).length + (words x2).length + 1)).length := by first | omega | (simp only [List.length_set]; omega) | (rw [rowL_len]; omega)
    obtain ⟨b42, f43, hso44⟩ := Rd.addr (hS.rd 1 rfl) hi45
    refine any_take (v := .pointer (some ⟨b42, f43 + i, none⟩)) hA 3 rfl rfl rfl rfl (by kernel_rfl) (by kernel_rfl) (by kernel_rfl) (fun c a w h => hP c a _ _ w h) (hS.part (.cons_cons _ (.cons_cons _ (.cons_cons _ (.cons_cons _ .slnil)))) ⟨⟨0, rfl⟩, ⟨⟨1, rfl⟩, ⟨⟨2, rfl⟩, ⟨⟨3, rfl⟩, ⟨⟨4, rfl⟩, ⟨⟨5, rfl⟩, ⟨⟨6, rfl⟩, ⟨⟨7, rfl⟩, ⟨⟨8, rfl⟩, ⟨⟨9, rfl⟩, trivial⟩⟩⟩⟩⟩⟩⟩⟩⟩⟩ (.cons _ .slnil)) (fun w1 hS => does_indexRow (k := i) Try.underlying22 (by kernel_rfl) rfl rfl (by omega) hso44 hi45) ?_
    intro a hA
    refine any_take (v := .int .u32 ((((rowL b1 (x1 - b1.toNat) ((words x1).length + (words x2).length + 1)).getD i 0 : Nat) : Int))) hA 4 rfl rfl rfl rfl (by kernel_rfl) (by kernel_rfl) (by kernel_rfl) (fun c a w h => hP c a _ _ w h) (hS.part (.cons_cons _ (.cons_cons _ (.cons_cons _ (.cons_cons _ .slnil)))) ⟨⟨0, rfl⟩, ⟨⟨1, rfl⟩, ⟨⟨2, rfl⟩, ⟨⟨3, rfl⟩, ⟨⟨4, rfl⟩, ⟨⟨5, rfl⟩, ⟨⟨6, rfl⟩, ⟨⟨7, rfl⟩, ⟨⟨8, rfl⟩, ⟨⟨9, rfl⟩, trivial⟩⟩⟩⟩⟩⟩⟩⟩⟩⟩ (.cons _ .slnil)) (fun w1 hS => does_loadRow (hS.rd 1 rfl) hso44 hi45 is1_41 rfl) ?_
    intro a hA
    refine any_take hA 5 rfl rfl rfl rfl (by kernel_rfl) (by kernel_rfl) (by kernel_rfl) (fun c a w h => hP c a _ _ w h) (hS.part (.cons_cons _ (.cons_cons _ (.cons_cons _ (.cons_cons _ .slnil)))) ⟨⟨0, rfl⟩, ⟨⟨1, rfl⟩, ⟨⟨2, rfl⟩, ⟨⟨3, rfl⟩, ⟨⟨4, rfl⟩, ⟨⟨5, rfl⟩, ⟨⟨6, rfl⟩, ⟨⟨7, rfl⟩, ⟨⟨8, rfl⟩, ⟨⟨9, rfl⟩, trivial⟩⟩⟩⟩⟩⟩⟩⟩⟩⟩ (.cons _ .slnil)) (fun w1 hS => does_move rfl) ?_
    intro a hA
    refine any_take hA 6 rfl rfl rfl rfl (by kernel_rfl) (by kernel_rfl) (by kernel_rfl) (fun c a w h => hP c a _ _ w h) (hS.part (.cons_cons _ (.cons_cons _ (.cons_cons _ (.cons_cons _ .slnil)))) ⟨⟨0, rfl⟩, ⟨⟨1, rfl⟩, ⟨⟨2, rfl⟩, ⟨⟨3, rfl⟩, ⟨⟨4, rfl⟩, ⟨⟨5, rfl⟩, ⟨⟨6, rfl⟩, ⟨⟨7, rfl⟩, ⟨⟨8, rfl⟩, ⟨⟨9, rfl⟩, trivial⟩⟩⟩⟩⟩⟩⟩⟩⟩⟩ (.cons _ .slnil)) (fun w1 hS => does_move rfl) ?_
    intro a hA
    have hi49 : i < (rowL b2 (x2 - b2.toNat) ((words x1).length + (words x2).length + 1)).length := by first | omega | (simp only [List.length_set]; omega) | (rw [rowL_len]; omega)
    obtain ⟨b46, f47, hso48⟩ := Rd.addr (hS.rd 0 rfl) hi49
    refine any_take (v := .pointer (some ⟨b46, f47 + i, none⟩)) hA 7 rfl rfl rfl rfl (by kernel_rfl) (by kernel_rfl) (by kernel_rfl) (fun c a w h => hP c a _ _ w h) (hS.part (.cons_cons _ (.cons_cons _ (.cons_cons _ (.cons_cons _ .slnil)))) ⟨⟨0, rfl⟩, ⟨⟨1, rfl⟩, ⟨⟨2, rfl⟩, ⟨⟨3, rfl⟩, ⟨⟨4, rfl⟩, ⟨⟨5, rfl⟩, ⟨⟨6, rfl⟩, ⟨⟨7, rfl⟩, ⟨⟨8, rfl⟩, ⟨⟨9, rfl⟩, trivial⟩⟩⟩⟩⟩⟩⟩⟩⟩⟩ (.cons _ .slnil)) (fun w1 hS => does_indexRow (k := i) Try.underlying22 (by kernel_rfl) rfl rfl (by omega) hso48 hi49) ?_
    intro a hA
    refine any_take (v := .int .u32 ((((rowL b2 (x2 - b2.toNat) ((words x1).length + (words x2).length + 1)).getD i 0 : Nat) : Int))) hA 8 rfl rfl rfl rfl (by kernel_rfl) (by kernel_rfl) (by kernel_rfl) (fun c a w h => hP c a _ _ w h) (hS.part (.cons_cons _ (.cons_cons _ (.cons_cons _ (.cons_cons _ .slnil)))) ⟨⟨0, rfl⟩, ⟨⟨1, rfl⟩, ⟨⟨2, rfl⟩, ⟨⟨3, rfl⟩, ⟨⟨4, rfl⟩, ⟨⟨5, rfl⟩, ⟨⟨6, rfl⟩, ⟨⟨7, rfl⟩, ⟨⟨8, rfl⟩, ⟨⟨9, rfl⟩, trivial⟩⟩⟩⟩⟩⟩⟩⟩⟩⟩ (.cons _ .slnil)) (fun w1 hS => does_loadRow (hS.rd 0 rfl) hso48 hi49 is1_41 rfl) ?_
    intro a hA
    refine any_take (v := .int .u32 ((((rowL b1 (x1 - b1.toNat) ((words x1).length + (words x2).length + 1)).getD i 0 ||| (rowL b2 (x2 - b2.toNat) ((words x1).length + (words x2).length + 1)).getD i 0 : Nat) : Int))) hA 9 rfl rfl rfl rfl (by kernel_rfl) (by kernel_rfl) (by kernel_rfl) (fun c a w h => hP c a _ _ w h) (hS.part (.cons_cons _ (.cons_cons _ (.cons_cons _ (.cons_cons _ .slnil)))) ⟨⟨0, rfl⟩, ⟨⟨1, rfl⟩, ⟨⟨2, rfl⟩, ⟨⟨3, rfl⟩, ⟨⟨4, rfl⟩, ⟨⟨5, rfl⟩, ⟨⟨6, rfl⟩, ⟨⟨7, rfl⟩, ⟨⟨8, rfl⟩, ⟨⟨9, rfl⟩, trivial⟩⟩⟩⟩⟩⟩⟩⟩⟩⟩ (.cons _ .slnil)) (fun w1 hS => does_bin rfl rfl (bin_or (Dig.getD (rowL_dig _ _ _) _) (Dig.getD (rowL_dig _ _ _) _))) ?_
    intro a hA
    refine any_one (by kernel_rfl) (op_newU (us := [(rowL b1 (x1 - b1.toNat) ((words x1).length + (words x2).length + 1)).getD i 0 ||| (rowL b2 (x2 - b2.toNat) ((words x1).length + (words x2).length + 1)).getD i 0]) (t := 41) (m := 1) hA hS 10 rfl rfl rfl rfl (does_buildSlice rfl (by kernel_rfl)) (by intro z hz; rw [List.mem_singleton] at hz; subst hz; exact (or_op.lt _ _ (Dig.getD (rowL_dig _ _ _) _) (Dig.getD (rowL_dig _ _ _) _))) ?_)
    intro g50 w51 hS
    refine ⟨(hS.part (.cons_cons _ (.cons_cons _ (.cons_cons _ (.cons_cons _ .slnil)))) ⟨⟨1, rfl⟩, ⟨⟨2, rfl⟩, ⟨⟨3, rfl⟩, ⟨⟨4, rfl⟩, ⟨⟨5, rfl⟩, ⟨⟨6, rfl⟩, ⟨⟨7, rfl⟩, ⟨⟨8, rfl⟩, ⟨⟨9, rfl⟩, ⟨⟨10, rfl⟩, trivial⟩⟩⟩⟩⟩⟩⟩⟩⟩⟩ (.cons _ .slnil)), ?_⟩
    intro a hA
    refine any_one (by kernel_rfl) (op_append (k := 0) (us := ((List.range ((words x1).length + (words x2).length + 1)).map (fun i => rwd b1 (x1 - b1.toNat) i ||| rwd b2 (x2 - b2.toNat) i)).take i) (news := [(rowL b1 (x1 - b1.toNat) ((words x1).length + (words x2).length + 1)).getD i 0 ||| (rowL b2 (x2 - b2.toNat) ((words x1).length + (words x2).length + 1)).getD i 0]) hA 11 rfl rfl rfl rfl (does_append Try.underlying22 rfl (by kernel_rfl) hS 0 rfl rfl rfl 0 rfl rfl rfl (by first | omega | (simp only [List.length_append, List.length_cons, List.length_nil]; omega))) ?_)
    intro g53 rc54 w52 hS
    refine ⟨(hS.part (.cons_cons _ (.cons_cons _ (.cons_cons _ (.cons_cons _ .slnil)))) ⟨⟨1, rfl⟩, ⟨⟨2, rfl⟩, ⟨⟨3, rfl⟩, ⟨⟨4, rfl⟩, ⟨⟨5, rfl⟩, ⟨⟨6, rfl⟩, ⟨⟨7, rfl⟩, ⟨⟨8, rfl⟩, ⟨⟨9, rfl⟩, ⟨⟨10, rfl⟩, trivial⟩⟩⟩⟩⟩⟩⟩⟩⟩⟩ (.cons _ .slnil)), ?_⟩
    intro a hA
    refine any_take hA 12 rfl rfl rfl rfl (by kernel_rfl) (by kernel_rfl) (by kernel_rfl) (fun c a w h => hP c a _ _ w h) (hS.part (.cons_cons _ (.cons_cons _ (.cons_cons _ (.cons_cons _ .slnil)))) ⟨⟨1, rfl⟩, ⟨⟨2, rfl⟩, ⟨⟨3, rfl⟩, ⟨⟨4, rfl⟩, ⟨⟨5, rfl⟩, ⟨⟨6, rfl⟩, ⟨⟨7, rfl⟩, ⟨⟨8, rfl⟩, ⟨⟨9, rfl⟩, ⟨⟨10, rfl⟩, trivial⟩⟩⟩⟩⟩⟩⟩⟩⟩⟩ (.cons _ .slnil)) (fun w1 hS => does_assign rfl) ?_
    intro a hA
    refine any_end (by kernel_rfl) ?_
    refine hK38 _ _ ?_
    refine wp_region_lit ?_
    refine seq_do hA rfl rfl rfl (does_move rfl) ?_
    intro a hA
    refine seq_do (v := .int .i64 (((i + 1 : Nat) : Int))) hA rfl rfl rfl (does_bin rfl rfl (fun w => (bin_add (i64In (by omega) (by omega)) w).trans (by rw [show (((i : Nat) : Int) + 1 : Int) = ((i + 1 : Nat) : Int) from by omega]))) ?_
    intro a hA
    refine seq_do hA rfl rfl rfl (does_assign rfl) ?_
    intro a hA
    refine seq_end ?_
    rw [take_snoc (u := (List.range ((words x1).length + (words x2).length + 1)).map (fun i => rwd b1 (x1 - b1.toNat) i ||| rwd b2 (x2 - b2.toNat) i)) (by rw [mapr_len]; omega) (by rw [mapr_get (by omega), rowL_get (by omega), rowL_get (by omega)])] at hS hA
    refine hK33 _ _ _ (by omega) ⟨i + 1, some ⟨g53, 0, none⟩, rc54, rfl, (by omega), hA.keep _ ⟨rfl, rfl, rfl, rfl, rfl, rfl, rfl, rfl, rfl, rfl, rfl, rfl, rfl, rfl, rfl, rfl, rfl, rfl, rfl, rfl, rfl, rfl, rfl, rfl, rfl, rfl, rfl, rfl, rfl, rfl, rfl, rfl, rfl, rfl, rfl, rfl, trivial⟩, ((hS.pickR [(ro22, rowL b2 (x2 - b2.toNat) ((words x1).length + (words x2).length + 1)), (ro17, rowL b1 (x1 - b1.toNat) ((words x1).length + (words x2).length + 1)), (u4, [1]), (u3, []), (u2, [1]), (u1, words x2), (a4, [1]), (a3, []), (a2, [1]), (a1, words x1)] ⟨⟨1, rfl⟩, ⟨⟨2, rfl⟩, ⟨⟨3, rfl⟩, ⟨⟨4, rfl⟩, ⟨⟨5, rfl⟩, ⟨⟨6, rfl⟩, ⟨⟨7, rfl⟩, ⟨⟨8, rfl⟩, ⟨⟨9, rfl⟩, ⟨⟨10, rfl⟩, trivial⟩⟩⟩⟩⟩⟩⟩⟩⟩⟩).subL _ (.cons_cons _ (.cons_cons _ (.cons_cons _ (.cons_cons _ .slnil)))))⟩
  · have hb37' := of_decide_eq_false hb37
    refine seq_do (v := .bool false) hA rfl rfl rfl (does_bin rfl rfl (fun w => (bin_lss w).trans (by rw [hb37]))) ?_
    intro a hA
    refine seq_end ?_
    refine hK36 _ _ ?_
    refine wp_cond_false (hA.ev rfl) ?_
    refine wp_exit ?_
    refine hK30 _ _ ?_
    refine wp_seq_k (fun K55 hK55 => ?_)
    refine wp_region_lit ?_
    refine seq_do hA rfl rfl rfl (does_move rfl) ?_
    intro a hA
    refine seq_call hA rfl rfl rfl (enters_func  rfl rfl (fun w => by kernel_rfl)) (rnumber_any (u := outL (fun x y => x ||| y) (fun b c => b || c) b1 (x1 - b1.toNat) b2 (x2 - b2.toNat) ((words x1).length + (words x2).length + 1)) (s := (b1 || b2)) (outL_dig or_op _) (by rw [outL_len]; omega) (by rw [outL_len]; omega) (by rw [outL_len, outL_get (by omega)]; exact outW_end or_op (by have := sub_len (b := b1) (Nat.le_refl (words x1).length); omega) (by have := sub_len (b := b2) (Nat.le_refl (words x2).length); omega)) (by rw [mapr_all (by omega)]; exact both_twos) (hS.row 0 rfl).sc) ?_
    rintro _ w59 ⟨p56_1, p56_c1, p56_2, p56_c2, p56_3, p56_c3, p56_4, p56_c4, rfl, hn57, hb58⟩
    replace hS := hS.subO [] (.cons _ .slnil)
    replace hS := hS.call hb58
    replace hS := hS.addR hn57.s1.rd
    replace hS := hS.addR hn57.s2.rd
    replace hS := hS.addR hn57.s3.rd
    replace hS := hS.addR hn57.s4.rd
    refine ⟨_, rfl, ?_⟩
    intro a hA
    refine seq_do (v := .agg #[.bool ((bigS (b1 || b2) (val (outL (fun x y => x ||| y) (fun b c => b || c) b1 (x1 - b1.toNat) b2 (x2 - b2.toNat) ((words x1).length + (words x2).length + 1)) + (b1 || b2).toNat)).1.b1), .slice p56_1 (((bigS (b1 || b2) (val (outL (fun x y => x ||| y) (fun b c => b || c) b1 (x1 - b1.toNat) b2 (x2 - b2.toNat) ((words x1).length + (words x2).length + 1)) + (b1 || b2).toNat)).1.t1).length) p56_c1, .slice p56_2 (((bigS (b1 || b2) (val (outL (fun x y => x ||| y) (fun b c => b || c) b1 (x1 - b1.toNat) b2 (x2 - b2.toNat) ((words x1).length + (words x2).length + 1)) + (b1 || b2).toNat)).1.q1).length) p56_c2, .bool ((bigS (b1 || b2) (val (outL (fun x y => x ||| y) (fun b c => b || c) b1 (x1 - b1.toNat) b2 (x2 - b2.toNat) ((words x1).length + (words x2).length + 1)) + (b1 || b2).toNat)).1.b2), .slice p56_3 (((bigS (b1 || b2) (val (outL (fun x y => x ||| y) (fun b c => b || c) b1 (x1 - b1.toNat) b2 (x2 - b2.toNat) ((words x1).length + (words x2).length + 1)) + (b1 || b2).toNat)).1.t2).length) p56_c3, .slice p56_4 (((bigS (b1 || b2) (val (outL (fun x y => x ||| y) (fun b c => b || c) b1 (x1 - b1.toNat) b2 (x2 - b2.toNat) ((words x1).length + (words x2).length + 1)) + (b1 || b2).toNat)).1.q2).length) p56_c4]) hA rfl rfl rfl (does_extract (vs := [.agg #[.bool ((bigS (b1 || b2) (val (outL (fun x y => x ||| y) (fun b c => b || c) b1 (x1 - b1.toNat) b2 (x2 - b2.toNat) ((words x1).length + (words x2).length + 1)) + (b1 || b2).toNat)).1.b1), .slice p56_1 (((bigS (b1 || b2) (val (outL (fun x y => x ||| y) (fun b c => b || c) b1 (x1 - b1.toNat) b2 (x2 - b2.toNat) ((words x1).length + (words x2).length + 1)) + (b1 || b2).toNat)).1.t1).length) p56_c1, .slice p56_2 (((bigS (b1 || b2) (val (outL (fun x y => x ||| y) (fun b c => b || c) b1 (x1 - b1.toNat) b2 (x2 - b2.toNat) ((words x1).length + (words x2).length + 1)) + (b1 || b2).toNat)).1.q1).length) p56_c2, .bool ((bigS (b1 || b2) (val (outL (fun x y => x ||| y) (fun b c => b || c) b1 (x1 - b1.toNat) b2 (x2 - b2.toNat) ((words x1).length + (words x2).length + 1)) + (b1 || b2).toNat)).1.b2), .slice p56_3 (((bigS (b1 || b2) (val (outL (fun x y => x ||| y) (fun b c => b || c) b1 (x1 - b1.toNat) b2 (x2 - b2.toNat) ((words x1).length + (words x2).length + 1)) + (b1 || b2).toNat)).1.t2).length) p56_c3, .slice p56_4 (((bigS (b1 || b2) (val (outL (fun x y => x ||| y) (fun b c => b || c) b1 (x1 - b1.toNat) b2 (x2 - b2.toNat) ((words x1).length + (words x2).length + 1)) + (b1 || b2).toNat)).1.q2).length) p56_c4], .int .i64 ((bigS (b1 || b2) (val (outL (fun x y => x ||| y) (fun b c => b || c) b1 (x1 - b1.toNat) b2 (x2 - b2.toNat) ((words x1).length + (words x2).length + 1)) + (b1 || b2).toNat)).2)]) rfl rfl) ?_
    intro a hA
    refine seq_do (v := .int .i64 ((bigS (b1 || b2) (val (outL (fun x y => x ||| y) (fun b c => b || c) b1 (x1 - b1.toNat) b2 (x2 - b2.toNat) ((words x1).length + (words x2).length + 1)) + (b1 || b2).toNat)).2)) hA rfl rfl rfl (does_extract (vs := [.agg #[.bool ((bigS (b1 || b2) (val (outL (fun x y => x ||| y) (fun b c => b || c) b1 (x1 - b1.toNat) b2 (x2 - b2.toNat) ((words x1).length + (words x2).length + 1)) + (b1 || b2).toNat)).1.b1), .slice p56_1 (((bigS (b1 || b2) (val (outL (fun x y => x ||| y) (fun b c => b || c) b1 (x1 - b1.toNat) b2 (x2 - b2.toNat) ((words x1).length + (words x2).length + 1)) + (b1 || b2).toNat)).1.t1).length) p56_c1, .slice p56_2 (((bigS (b1 || b2) (val (outL (fun x y => x ||| y) (fun b c => b || c) b1 (x1 - b1.toNat) b2 (x2 - b2.toNat) ((words x1).length + (words x2).length + 1)) + (b1 || b2).toNat)).1.q1).length) p56_c2, .bool ((bigS (b1 || b2) (val (outL (fun x y => x ||| y) (fun b c => b || c) b1 (x1 - b1.toNat) b2 (x2 - b2.toNat) ((words x1).length + (words x2).length + 1)) + (b1 || b2).toNat)).1.b2), .slice p56_3 (((bigS (b1 || b2) (val (outL (fun x y => x ||| y) (fun b c => b || c) b1 (x1 - b1.toNat) b2 (x2 - b2.toNat) ((words x1).length + (words x2).length + 1)) + (b1 || b2).toNat)).1.t2).length) p56_c3, .slice p56_4 (((bigS (b1 || b2) (val (outL (fun x y => x ||| y) (fun b c => b || c) b1 (x1 - b1.toNat) b2 (x2 - b2.toNat) ((words x1).length + (words x2).length + 1)) + (b1 || b2).toNat)).1.q2).length) p56_c4], .int .i64 ((bigS (b1 || b2) (val (outL (fun x y => x ||| y) (fun b c => b || c) b1 (x1 - b1.toNat) b2 (x2 - b2.toNat) ((words x1).length + (words x2).length + 1)) + (b1 || b2).toNat)).2)]) rfl rfl) ?_
    intro a hA
    refine seq_store (us := [.bool ((bigS (b1 || b2) (val (outL (fun x y => x ||| y) (fun b c => b || c) b1 (x1 - b1.toNat) b2 (x2 - b2.toNat) ((words x1).length + (words x2).length + 1)) + (b1 || b2).toNat)).1.b1), .slice p56_1 (((bigS (b1 || b2) (val (outL (fun x y => x ||| y) (fun b c => b || c) b1 (x1 - b1.toNat) b2 (x2 - b2.toNat) ((words x1).length + (words x2).length + 1)) + (b1 || b2).toNat)).1.t1).length) p56_c1, .slice p56_2 (((bigS (b1 || b2) (val (outL (fun x y => x ||| y) (fun b c => b || c) b1 (x1 - b1.toNat) b2 (x2 - b2.toNat) ((words x1).length + (words x2).length + 1)) + (b1 || b2).toNat)).1.q1).length) p56_c2, .bool ((bigS (b1 || b2) (val (outL (fun x y => x ||| y) (fun b c => b || c) b1 (x1 - b1.toNat) b2 (x2 - b2.toNat) ((words x1).length + (words x2).length + 1)) + (b1 || b2).toNat)).1.b2), .slice p56_3 (((bigS (b1 || b2) (val (outL (fun x y => x ||| y) (fun b c => b || c) b1 (x1 - b1.toNat) b2 (x2 - b2.toNat) ((words x1).length + (words x2).length + 1)) + (b1 || b2).toNat)).1.t2).length) p56_c3, .slice p56_4 (((bigS (b1 || b2) (val (outL (fun x y => x ||| y) (fun b c => b || c) b1 (x1 - b1.toNat) b2 (x2 - b2.toNat) ((words x1).length + (words x2).length + 1)) + (b1 || b2).toNat)).1.q2).length) p56_c4]) hA hS rfl rfl (sets_store (cs := [.bool ((bigS (b1 || b2) (val (outL (fun x y => x ||| y) (fun b c => b || c) b1 (x1 - b1.toNat) b2 (x2 - b2.toNat) ((words x1).length + (words x2).length + 1)) + (b1 || b2).toNat)).1.b1), .slice p56_1 (((bigS (b1 || b2) (val (outL (fun x y => x ||| y) (fun b c => b || c) b1 (x1 - b1.toNat) b2 (x2 - b2.toNat) ((words x1).length + (words x2).length + 1)) + (b1 || b2).toNat)).1.t1).length) p56_c1, .slice p56_2 (((bigS (b1 || b2) (val (outL (fun x y => x ||| y) (fun b c => b || c) b1 (x1 - b1.toNat) b2 (x2 - b2.toNat) ((words x1).length + (words x2).length + 1)) + (b1 || b2).toNat)).1.q1).length) p56_c2, .bool ((bigS (b1 || b2) (val (outL (fun x y => x ||| y) (fun b c => b || c) b1 (x1 - b1.toNat) b2 (x2 - b2.toNat) ((words x1).length + (words x2).length + 1)) + (b1 || b2).toNat)).1.b2), .slice p56_3 (((bigS (b1 || b2) (val (outL (fun x y => x ||| y) (fun b c => b || c) b1 (x1 - b1.toNat) b2 (x2 - b2.toNat) ((words x1).length + (words x2).length + 1)) + (b1 || b2).toNat)).1.t2).length) p56_c3, .slice p56_4 (((bigS (b1 || b2) (val (outL (fun x y => x ||| y) (fun b c => b || c) b1 (x1 - b1.toNat) b2 (x2 - b2.toNat) ((words x1).length + (words x2).length + 1)) + (b1 || b2).toNat)).1.q2).length) p56_c4]) rfl rfl rfl (by kernel_rfl) hS 1 rfl rfl rfl) 1 rfl rfl rfl rfl ?_
    intro w60 hS
    refine seq_do hA rfl rfl rfl (does_assign rfl) ?_
    intro a hA
    refine seq_end ?_
    refine hK55 _ _ ?_
    refine wp_ret ?_
    refine hret _ _ ?_
    refine ends (v := .tuple #[.agg #[.bool ((bigS (b1 || b2) (val (outL (fun x y => x ||| y) (fun b c => b || c) b1 (x1 - b1.toNat) b2 (x2 - b2.toNat) ((words x1).length + (words x2).length + 1)) + (b1 || b2).toNat)).1.b1), .slice p56_1 (((bigS (b1 || b2) (val (outL (fun x y => x ||| y) (fun b c => b || c) b1 (x1 - b1.toNat) b2 (x2 - b2.toNat) ((words x1).length + (words x2).length + 1)) + (b1 || b2).toNat)).1.t1).length) p56_c1, .slice p56_2 (((bigS (b1 || b2) (val (outL (fun x y => x ||| y) (fun b c => b || c) b1 (x1 - b1.toNat) b2 (x2 - b2.toNat) ((words x1).length + (words x2).length + 1)) + (b1 || b2).toNat)).1.q1).length) p56_c2, .bool ((bigS (b1 || b2) (val (outL (fun x y => x ||| y) (fun b c => b || c) b1 (x1 - b1.toNat) b2 (x2 - b2.toNat) ((words x1).length + (words x2).length + 1)) + (b1 || b2).toNat)).1.b2), .slice p56_3 (((bigS (b1 || b2) (val (outL (fun x y => x ||| y) (fun b c => b || c) b1 (x1 - b1.toNat) b2 (x2 - b2.toNat) ((words x1).length + (words x2).length + 1)) + (b1 || b2).toNat)).1.t2).length) p56_c3, .slice p56_4 (((bigS (b1 || b2) (val (outL (fun x y => x ||| y) (fun b c => b || c) b1 (x1 - b1.toNat) b2 (x2 - b2.toNat) ((words x1).length + (words x2).length + 1)) + (b1 || b2).toNat)).1.q2).length) p56_c4], .int .i64 ((bigS (b1 || b2) (val (outL (fun x y => x ||| y) (fun b c => b || c) b1 (x1 - b1.toNat) b2 (x2 - b2.toNat) ((words x1).length + (words x2).length + 1)) + (b1 || b2).toNat)).2)]) hA rfl (.cons (res_cell hS isS_26 rfl 1 rfl (cs := [.bool ((bigS (b1 || b2) (val (outL (fun x y => x ||| y) (fun b c => b || c) b1 (x1 - b1.toNat) b2 (x2 - b2.toNat) ((words x1).length + (words x2).length + 1)) + (b1 || b2).toNat)).1.b1), .slice p56_1 (((bigS (b1 || b2) (val (outL (fun x y => x ||| y) (fun b c => b || c) b1 (x1 - b1.toNat) b2 (x2 - b2.toNat) ((words x1).length + (words x2).length + 1)) + (b1 || b2).toNat)).1.t1).length) p56_c1, .slice p56_2 (((bigS (b1 || b2) (val (outL (fun x y => x ||| y) (fun b c => b || c) b1 (x1 - b1.toNat) b2 (x2 - b2.toNat) ((words x1).length + (words x2).length + 1)) + (b1 || b2).toNat)).1.q1).length) p56_c2, .bool ((bigS (b1 || b2) (val (outL (fun x y => x ||| y) (fun b c => b || c) b1 (x1 - b1.toNat) b2 (x2 - b2.toNat) ((words x1).length + (words x2).length + 1)) + (b1 || b2).toNat)).1.b2), .slice p56_3 (((bigS (b1 || b2) (val (outL (fun x y => x ||| y) (fun b c => b || c) b1 (x1 - b1.toNat) b2 (x2 - b2.toNat) ((words x1).length + (words x2).length + 1)) + (b1 || b2).toNat)).1.t2).length) p56_c3, .slice p56_4 (((bigS (b1 || b2) (val (outL (fun x y => x ||| y) (fun b c => b || c) b1 (x1 - b1.toNat) b2 (x2 - b2.toNat) ((words x1).length + (words x2).length + 1)) + (b1 || b2).toNat)).1.q2).length) p56_c4]) rfl rfl) (.cons (res_tmp rfl) .nil)) rfl ?_
    rw [bitQ_whole hw, ← put_val or_op (n := (words x1).length + (words x2).length + 1) (by have := sub_len (b := b1) (Nat.le_refl (words x1).length); omega) (by have := sub_len (b := b2) (Nat.le_refl (words x2).length); omega)]
    exact ⟨p56_1, p56_c1, p56_2, p56_c2, p56_3, p56_c3, p56_4, p56_c4, rfl, ⟨⟨(hS.rd 3 rfl), hn57.s1.nil, hn57.s1.cap⟩, ⟨(hS.rd 2 rfl), hn57.s2.nil, hn57.s2.cap⟩, ⟨(hS.rd 1 rfl), hn57.s3.nil, hn57.s3.cap⟩, ⟨(hS.rd 0 rfl), hn57.s4.nil, hn57.s4.cap⟩⟩, hS.bel⟩
theorem rxorE_any {w : World} {p q : Q6} {a1 a2 a3 a4 : Option Addr} {ac1 ac2 ac3 ac4 : Nat} (ha : Nm w p a1 ac1 a2 ac2 a3 ac3 a4 ac4) (hl : LenQ p) {u1 u2 u3 u4 : Option Addr} {uc1 uc2 uc3 uc4 : Nat} (hu : Nm w q u1 uc1 u2 uc2 u3 uc3 u4 uc4) (hm : LenQ q)  (hw : (want2 p q != 0) = true) : Calls Try.prog 7 #[.int .i64 3, numV p a1 ac1 a2 ac2 a3 ac3 a4 ac4, numV q u1 uc1 u2 uc2 u3 uc3 u4 uc4] w (AnsN w (bitQ (fun x y => x ^^^ y) (fun b c => b != c) p q)) := by
  have hS : St w w [] [(u4, q.q2), (u3, q.t2), (u2, q.q1), (u1, q.t1), (a4, p.q2), (a3, p.t2), (a2, p.q1), (a1, p.t1)] [] := ((((((((St.start w).addR ha.s1.rd).addR ha.s2.rd).addR ha.s3.rd).addR ha.s4.rd).addR hu.s1.rd).addR hu.s2.rd).addR hu.s3.rd).addR hu.s4.rd
  refine walk_of (l := [(0, .int .i64 3), (1, .agg #[.bool p.b1, .slice a1 p.t1.length ac1, .slice a2 p.q1.length ac2, .bool p.b2, .slice a3 p.t2.length ac3, .slice a4 p.q2.length ac4]), (2, .agg #[.bool q.b1, .slice u1 q.t1.length uc1, .slice u2 q.q1.length uc2, .bool q.b2, .slice u3 q.t2.length uc3, .slice u4 q.q2.length uc4])]) Try.func7 rfl Try.ntmps7 rfl rfl ?_
  intro Q hret hnorm hP a hA
  refine wp_seq_k (fun K1 hK1 => ?_)
  refine wp_region_lit ?_
  refine seq_new (vs := [.bool p.b1, .slice a1 p.t1.length ac1, .slice a2 p.q1.length ac2, .bool p.b2, .slice a3 p.t2.length ac3, .slice a4 p.q2.length ac4]) (t := 26) hA hS rfl rfl rfl (fun g => .pointer (some ⟨g, 0, none⟩)) (does_box rfl rfl) rfl ?_
  intro g2 w3 hS a hA
  refine seq_new (vs := [.bool q.b1, .slice u1 q.t1.length uc1, .slice u2 q.q1.length uc2, .bool q.b2, .slice u3 q.t2.length uc3, .slice u4 q.q2.length uc4]) (t := 26) hA hS rfl rfl rfl (fun g => .pointer (some ⟨g, 0, none⟩)) (does_box rfl rfl) rfl ?_
  intro g4 w5 hS a hA
  refine seq_new (vs := [.bool false, .slice none 0 0, .slice none 0 0, .bool false, .slice none 0 0, .slice none 0 0]) (t := 26) hA hS rfl rfl rfl (fun g => .pointer (some ⟨g, 0, none⟩)) (does_alloc (z := .agg #[.bool false, .slice none 0 0, .slice none 0 0, .bool false, .slice none 0 0, .slice none 0 0]) (by kernel_rfl) rfl) rfl ?_
  intro g6 w7 hS a hA
  refine seq_do hA rfl rfl rfl (does_assign rfl) ?_
  intro a hA
  refine seq_end ?_
  refine hK1 _ _ ?_
  refine wp_seq_k (fun K8 hK8 => ?_)
  refine wp_region_lit ?_
  refine seq_do (v := .agg #[.bool p.b1, .slice a1 p.t1.length ac1, .slice a2 p.q1.length ac2, .bool p.b2, .slice a3 p.t2.length ac3, .slice a4 p.q2.length ac4]) hA rfl rfl rfl (does_loadS hS isS_26 rfl 2 rfl (cs := [.bool p.b1, .slice a1 p.t1.length ac1, .slice a2 p.q1.length ac2, .bool p.b2, .slice a3 p.t2.length ac3, .slice a4 p.q2.length ac4]) rfl rfl) ?_
  intro a hA
  refine seq_do (v := .agg #[.bool q.b1, .slice u1 q.t1.length uc1, .slice u2 q.q1.length uc2, .bool q.b2, .slice u3 q.t2.length uc3, .slice u4 q.q2.length uc4]) hA rfl rfl rfl (does_loadS hS isS_26 rfl 1 rfl (cs := [.bool q.b1, .slice u1 q.t1.length uc1, .slice u2 q.q1.length uc2, .bool q.b2, .slice u3 q.t2.length uc3, .slice u4 q.q2.length uc4]) rfl rfl) ?_
  intro a hA
  refine seq_new (vs := [.bool p.b1, .slice a1 p.t1.length ac1, .slice a2 p.q1.length ac2, .bool p.b2, .slice a3 p.t2.length ac3, .slice a4 p.q2.length ac4, .bool q.b1, .slice u1 q.t1.length uc1, .slice u2 q.q1.length uc2, .bool q.b2, .slice u3 q.t2.length uc3, .slice u4 q.q2.length uc4]) (t := 26) hA hS rfl rfl rfl (fun g => .slice (some ⟨g, 0, none⟩) 2 2) (does_buildSlice rfl (by kernel_rfl)) rfl ?_
  intro g9 w10 hS a hA
  refine seq_call hA rfl rfl rfl (enters_func  rfl rfl (fun w => by kernel_rfl)) (rcheck2_any (show Nm _ p a1 ac1 a2 ac2 a3 ac3 a4 ac4 from ⟨⟨(hS.rd 7 rfl), ha.s1.nil, ha.s1.cap⟩, ⟨(hS.rd 6 rfl), ha.s2.nil, ha.s2.cap⟩, ⟨(hS.rd 5 rfl), ha.s3.nil, ha.s3.cap⟩, ⟨(hS.rd 4 rfl), ha.s4.nil, ha.s4.cap⟩⟩) hl (show Nm _ q u1 uc1 u2 uc2 u3 uc3 u4 uc4 from ⟨⟨(hS.rd 3 rfl), hu.s1.nil, hu.s1.cap⟩, ⟨(hS.rd 2 rfl), hu.s2.nil, hu.s2.cap⟩, ⟨(hS.rd 1 rfl), hu.s3.nil, hu.s3.cap⟩, ⟨(hS.rd 0 rfl), hu.s4.nil, hu.s4.cap⟩⟩) hm (hS.blk 0 rfl) rfl) ?_
  rintro _ w12 ⟨rfl, hb11⟩
  replace hS := hS.call hb11
  refine ⟨_, rfl, ?_⟩
  intro a hA
  refine seq_do hA rfl rfl rfl (does_assign rfl) ?_
  intro a hA
  refine seq_end ?_
  refine hK8 _ _ ?_
  refine wp_seq_k (fun K13 hK13 => ?_)
  refine wp_seq_k (fun K14 hK14 => ?_)
  refine wp_region_lit ?_
  refine seq_do hA rfl rfl rfl (does_move rfl) ?_
  intro a hA
  refine seq_do (v := .bool true) hA rfl rfl rfl (does_bin rfl rfl (fun w => (bin_neq w).trans (by rw [show ((want2 p q != 0)) = true from hw]))) ?_
  intro a hA
  refine seq_end ?_
  refine hK14 _ _ ?_
  refine wp_cond_true (hA.ev rfl) ?_
  refine wp_seq_k (fun K15 hK15 => ?_)
  refine wp_region_lit ?_
  refine seq_do (v := .agg #[.bool false, .slice none 0 0, .slice none 0 0, .bool false, .slice none 0 0, .slice none 0 0]) hA rfl rfl rfl (does_build rfl (fun w => by kernel_rfl)) ?_
  intro a hA
  refine seq_do hA rfl rfl rfl (does_move rfl) ?_
  intro a hA
  refine seq_store (us := [.bool false, .slice none 0 0, .slice none 0 0, .bool false, .slice none 0 0, .slice none 0 0]) hA hS rfl rfl (sets_store (cs := [.bool false, .slice none 0 0, .slice none 0 0, .bool false, .slice none 0 0, .slice none 0 0]) rfl rfl rfl (by kernel_rfl) hS 1 rfl rfl rfl) 1 rfl rfl rfl rfl ?_
  intro w16 hS
  refine seq_do hA rfl rfl rfl (does_assign rfl) ?_
  intro a hA
  refine seq_end ?_
  refine hK15 _ _ ?_
  refine wp_ret ?_
  refine hret _ _ ?_
  refine ends (v := .tuple #[.agg #[.bool false, .slice none 0 0, .slice none 0 0, .bool false, .slice none 0 0, .slice none 0 0], .int .i64 (want2 p q)]) hA rfl (.cons (res_cell hS isS_26 rfl 1 rfl (cs := [.bool false, .slice none 0 0, .slice none 0 0, .bool false, .slice none 0 0, .slice none 0 0]) rfl rfl) (.cons (res_tmp rfl) .nil)) rfl ?_
  rw [bitQ_err hw]
  exact ⟨none, 0, none, 0, none, 0, none, 0, rfl, ⟨(Sc.none _), (Sc.none _), (Sc.none _), (Sc.none _)⟩, hS.bel⟩
theorem rxorW_any {w : World} {b1 b2 : Bool} {x1 x2 : Nat} {a1 a2 a3 a4 : Option Addr} {ac1 ac2 ac3 ac4 : Nat} (ha : Nm w (Q6.whole b1 x1) a1 ac1 a2 ac2 a3 ac3 a4 ac4) (hl : LenQ (Q6.whole b1 x1)) {u1 u2 u3 u4 : Option Addr} {uc1 uc2 uc3 uc4 : Nat} (hu : Nm w (Q6.whole b2 x2) u1 uc1 u2 uc2 u3 uc3 u4 uc4) (hm : LenQ (Q6.whole b2 x2))  (hw : want2 (Q6.whole b1 x1) (Q6.whole b2 x2) = 0) (hx1 : (words x1).length ≤ 512) (hb1 : b1.toNat ≤ x1) (hx2 : (words x2).length ≤ 512) (hb2 : b2.toNat ≤ x2) : Calls Try.prog 7 #[.int .i64 3, numV (Q6.whole b1 x1) a1 ac1 a2 ac2 a3 ac3 a4 ac4, numV (Q6.whole b2 x2) u1 uc1 u2 uc2 u3 uc3 u4 uc4] w (AnsN w (bitQ (fun x y => x ^^^ y) (fun b c => b != c) (Q6.whole b1 x1) (Q6.whole b2 x2))) := by
  have hS : St w w [] [(u4, [1]), (u3, []), (u2, [1]), (u1, words x2), (a4, [1]), (a3, []), (a2, [1]), (a1, words x1)] [] := ((((((((St.start w).addR ha.s1.rd).addR ha.s2.rd).addR ha.s3.rd).addR ha.s4.rd).addR hu.s1.rd).addR hu.s2.rd).addR hu.s3.rd).addR hu.s4.rd
  refine walk_of (l := [(0, .int .i64 3), (1, .agg #[.bool b1, .slice a1 ((words x1).length) ac1, .slice a2 1 ac2, .bool false, .slice a3 0 ac3, .slice a4 1 ac4]), (2, .agg #[.bool b2, .slice u1 ((words x2).length) uc1, .slice u2 1 uc2, .bool false, .slice u3 0 uc3, .slice u4 1 uc4])]) Try.func7 rfl Try.ntmps7 rfl rfl ?_
  intro Q hret hnorm hP a hA
  refine wp_seq_k (fun K1 hK1 => ?_)
  refine wp_region_lit ?_
  refine seq_new (vs := [.bool b1, .slice a1 ((words x1).length) ac1, .slice a2 1 ac2, .bool false, .slice a3 0 ac3, .slice a4 1 ac4]) (t := 26) hA hS rfl rfl rfl (fun g => .pointer (some ⟨g, 0, none⟩)) (does_box rfl rfl) rfl ?_
  intro g2 w3 hS a hA
  refine seq_new (vs := [.bool b2, .slice u1 ((words x2).length) uc1, .slice u2 1 uc2, .bool false, .slice u3 0 uc3, .slice u4 1 uc4]) (t := 26) hA hS rfl rfl rfl (fun g => .pointer (some ⟨g, 0, none⟩)) (does_box rfl rfl) rfl ?_
  intro g4 w5 hS a hA
  refine seq_new (vs := [.bool false, .slice none 0 0, .slice none 0 0, .bool false, .slice none 0 0, .slice none 0 0]) (t := 26) hA hS rfl rfl rfl (fun g => .pointer (some ⟨g, 0, none⟩)) (does_alloc (z := .agg #[.bool false, .slice none 0 0, .slice none 0 0, .bool false, .slice none 0 0, .slice none 0 0]) (by kernel_rfl) rfl) rfl ?_
  intro g6 w7 hS a hA
  refine seq_do hA rfl rfl rfl (does_assign rfl) ?_
  intro a hA
  refine seq_end ?_
  refine hK1 _ _ ?_
  refine wp_seq_k (fun K8 hK8 => ?_)
  refine wp_region_lit ?_
  refine seq_do (v := .agg #[.bool b1, .slice a1 ((words x1).length) ac1, .slice a2 1 ac2, .bool false, .slice a3 0 ac3, .slice a4 1 ac4]) hA rfl rfl rfl (does_loadS hS isS_26 rfl 2 rfl (cs := [.bool b1, .slice a1 ((words x1).length) ac1, .slice a2 1 ac2, .bool false, .slice a3 0 ac3, .slice a4 1 ac4]) rfl rfl) ?_
  intro a hA
  refine seq_do (v := .agg #[.bool b2, .slice u1 ((words x2).length) uc1, .slice u2 1 uc2, .bool false, .slice u3 0 uc3, .slice u4 1 uc4]) hA rfl rfl rfl (does_loadS hS isS_26 rfl 1 rfl (cs := [.bool b2, .slice u1 ((words x2).length) uc1, .slice u2 1 uc2, .bool false, .slice u3 0 uc3, .slice u4 1 uc4]) rfl rfl) ?_
  intro a hA
  refine seq_new (vs := [.bool b1, .slice a1 ((words x1).length) ac1, .slice a2 1 ac2, .bool false, .slice a3 0 ac3, .slice a4 1 ac4, .bool b2, .slice u1 ((words x2).length) uc1, .slice u2 1 uc2, .bool false, .slice u3 0 uc3, .slice u4 1 uc4]) (t := 26) hA hS rfl rfl rfl (fun g => .slice (some ⟨g, 0, none⟩) 2 2) (does_buildSlice rfl (by kernel_rfl)) rfl ?_
  intro g9 w10 hS a hA
  refine seq_call hA rfl rfl rfl (enters_func  rfl rfl (fun w => by kernel_rfl)) (rcheck2_any (show Nm _ (Q6.whole b1 x1) a1 ac1 a2 ac2 a3 ac3 a4 ac4 from ⟨⟨(hS.rd 7 rfl), ha.s1.nil, ha.s1.cap⟩, ⟨(hS.rd 6 rfl), ha.s2.nil, ha.s2.cap⟩, ⟨(hS.rd 5 rfl), ha.s3.nil, ha.s3.cap⟩, ⟨(hS.rd 4 rfl), ha.s4.nil, ha.s4.cap⟩⟩) hl (show Nm _ (Q6.whole b2 x2) u1 uc1 u2 uc2 u3 uc3 u4 uc4 from ⟨⟨(hS.rd 3 rfl), hu.s1.nil, hu.s1.cap⟩, ⟨(hS.rd 2 rfl), hu.s2.nil, hu.s2.cap⟩, ⟨(hS.rd 1 rfl), hu.s3.nil, hu.s3.cap⟩, ⟨(hS.rd 0 rfl), hu.s4.nil, hu.s4.cap⟩⟩) hm (hS.blk 0 rfl) hw) ?_
  rintro _ w12 ⟨rfl, hb11⟩
  replace hS := hS.call hb11
  refine ⟨_, rfl, ?_⟩
  intro a hA
  refine seq_do hA rfl rfl rfl (does_assign rfl) ?_
  intro a hA
  refine seq_end ?_
  refine hK8 _ _ ?_
  refine wp_seq_k (fun K13 hK13 => ?_)
  refine wp_seq_k (fun K14 hK14 => ?_)
  refine wp_region_lit ?_
  refine seq_do hA rfl rfl rfl (does_move rfl) ?_
  intro a hA
  refine seq_do (v := .bool false) hA rfl rfl rfl (does_bin rfl rfl (fun w => by kernel_rfl)) ?_
  intro a hA
  refine seq_end ?_
  refine hK14 _ _ ?_
  refine wp_cond_false (hA.ev rfl) ?_
  refine wp_skip ?_
  refine hK13 _ _ ?_
  refine wp_seq_k (fun K15 hK15 => ?_)
  refine wp_region_lit ?_
  refine seq_do (v := .pointer (some ⟨g2, 0, none⟩)) hA rfl rfl rfl (does_field fld_26_0 rfl rfl) ?_
  intro a hA
  refine seq_do (v := .pointer (some ⟨g2, 1, none⟩)) hA rfl rfl rfl (does_field fld_24_1 rfl rfl) ?_
  intro a hA
  refine seq_do hA rfl rfl rfl (does_load1 hS is1_22 rfl 3 rfl rfl) ?_
  intro a hA
  refine seq_do (v := .int .i64 ((((words x1).length : Nat) : Int))) hA rfl rfl rfl (does_len Try.underlying22 rfl) ?_
  intro a hA
  refine seq_do (v := .pointer (some ⟨g4, 0, none⟩)) hA rfl rfl rfl (does_field fld_26_0 rfl rfl) ?_
  intro a hA
  refine seq_do (v := .pointer (some ⟨g4, 1, none⟩)) hA rfl rfl rfl (does_field fld_24_1 rfl rfl) ?_
  intro a hA
  refine seq_do hA rfl rfl rfl (does_load1 hS is1_22 rfl 2 rfl rfl) ?_
  intro a hA
  refine seq_do (v := .int .i64 ((((words x2).length : Nat) : Int))) hA rfl rfl rfl (does_len Try.underlying22 rfl) ?_
  intro a hA
  refine seq_do (v := .int .i64 ((((words x1).length + (words x2).length : Nat) : Int))) hA rfl rfl rfl (does_bin rfl rfl (fun w => (bin_add (i64In (by omega) (by omega)) w).trans (by rw [show ((((words x1).length : Nat) : Int) + (((words x2).length : Nat) : Int) : Int) = (((words x1).length + (words x2).length : Nat) : Int) from by omega]))) ?_
  intro a hA
  refine seq_do (v := .int .i64 ((((words x1).length + (words x2).length + 1 : Nat) : Int))) hA rfl rfl rfl (does_bin rfl rfl (fun w => (bin_add (i64In (by omega) (by omega)) w).trans (by rw [show ((((words x1).length + (words x2).length : Nat) : Int) + 1 : Int) = (((words x1).length + (words x2).length + 1 : Nat) : Int) from by omega]))) ?_
  intro a hA
  refine seq_do hA rfl rfl rfl (does_assign rfl) ?_
  intro a hA
  refine seq_end ?_
  refine hK15 _ _ ?_
  refine wp_seq_k (fun K16 hK16 => ?_)
  refine wp_draw (S := fun w1 => St w w1 [(g9, [.bool b1, .slice a1 ((words x1).length) ac1, .slice a2 1 ac2, .bool false, .slice a3 0 ac3, .slice a4 1 ac4, .bool b2, .slice u1 ((words x2).length) uc1, .slice u2 1 uc2, .bool false, .slice u3 0 uc3, .slice u4 1 uc4]), (g6, [.bool false, .slice none 0 0, .slice none 0 0, .bool false, .slice none 0 0, .slice none 0 0]), (g4, [.bool b2, .slice u1 ((words x2).length) uc1, .slice u2 1 uc2, .bool false, .slice u3 0 uc3, .slice u4 1 uc4]), (g2, [.bool b1, .slice a1 ((words x1).length) ac1, .slice a2 1 ac2, .bool false, .slice a3 0 ac3, .slice a4 1 ac4])] [(u4, [1]), (u3, []), (u2, [1]), (u1, words x2), (a4, [1]), (a3, []), (a2, [1]), (a1, words x1)] []) (by kernel_rfl) ?_
  replace hS := hS.drew
  refine any_take (v := .agg #[.bool b1, .slice a1 ((words x1).length) ac1, .slice a2 1 ac2, .bool false, .slice a3 0 ac3, .slice a4 1 ac4]) hA 0 rfl rfl rfl rfl (by kernel_rfl) (by kernel_rfl) (by kernel_rfl) (fun c a w h => hP c a _ _ w h) (hS.part (.cons_cons _ (.cons_cons _ (.cons_cons _ (.cons_cons _ .slnil)))) ⟨⟨0, rfl⟩, ⟨⟨1, rfl⟩, ⟨⟨2, rfl⟩, ⟨⟨3, rfl⟩, ⟨⟨4, rfl⟩, ⟨⟨5, rfl⟩, ⟨⟨6, rfl⟩, ⟨⟨7, rfl⟩, trivial⟩⟩⟩⟩⟩⟩⟩⟩ .slnil) (fun w1 hS => does_loadS hS isS_26 rfl 3 rfl (cs := [.bool b1, .slice a1 ((words x1).length) ac1, .slice a2 1 ac2, .bool false, .slice a3 0 ac3, .slice a4 1 ac4]) rfl rfl) ?_
  intro a hA
  refine any_take hA 1 rfl rfl rfl rfl (by kernel_rfl) (by kernel_rfl) (by kernel_rfl) (fun c a w h => hP c a _ _ w h) (hS.part (.cons_cons _ (.cons_cons _ (.cons_cons _ (.cons_cons _ .slnil)))) ⟨⟨0, rfl⟩, ⟨⟨1, rfl⟩, ⟨⟨2, rfl⟩, ⟨⟨3, rfl⟩, ⟨⟨4, rfl⟩, ⟨⟨5, rfl⟩, ⟨⟨6, rfl⟩, ⟨⟨7, rfl⟩, trivial⟩⟩⟩⟩⟩⟩⟩⟩ .slnil) (fun w1 hS => does_move rfl) ?_
  intro a hA
  refine any_take (v := .agg #[.bool b2, .slice u1 ((words x2).length) uc1, .slice u2 1 uc2, .bool false, .slice u3 0 uc3, .slice u4 1 uc4]) hA 3 rfl rfl rfl rfl (by kernel_rfl) (by kernel_rfl) (by kernel_rfl) (fun c a w h => hP c a _ _ w h) (hS.part (.cons_cons _ (.cons_cons _ (.cons_cons _ (.cons_cons _ .slnil)))) ⟨⟨0, rfl⟩, ⟨⟨1, rfl⟩, ⟨⟨2, rfl⟩, ⟨⟨3, rfl⟩, ⟨⟨4, rfl⟩, ⟨⟨5, rfl⟩, ⟨⟨6, rfl⟩, ⟨⟨7, rfl⟩, trivial⟩⟩⟩⟩⟩⟩⟩⟩ .slnil) (fun w1 hS => does_loadS hS isS_26 rfl 2 rfl (cs := [.bool b2, .slice u1 ((words x2).length) uc1, .slice u2 1 uc2, .bool false, .slice u3 0 uc3, .slice u4 1 uc4]) rfl rfl) ?_
  intro a hA
  refine any_take hA 4 rfl rfl rfl rfl (by kernel_rfl) (by kernel_rfl) (by kernel_rfl) (fun c a w h => hP c a _ _ w h) (hS.part (.cons_cons _ (.cons_cons _ (.cons_cons _ (.cons_cons _ .slnil)))) ⟨⟨0, rfl⟩, ⟨⟨1, rfl⟩, ⟨⟨2, rfl⟩, ⟨⟨3, rfl⟩, ⟨⟨4, rfl⟩, ⟨⟨5, rfl⟩, ⟨⟨6, rfl⟩, ⟨⟨7, rfl⟩, trivial⟩⟩⟩⟩⟩⟩⟩⟩ .slnil) (fun w1 hS => does_move rfl) ?_
  intro a hA
  refine any_one (by kernel_rfl) (op_call hA 2 rfl rfl rfl rfl (enters_func  rfl rfl (fun w => by kernel_rfl)) (rrow_any (show Nm _ (Q6.whole b1 x1) a1 ac1 a2 ac2 a3 ac3 a4 ac4 from ⟨⟨(hS.rd 7 rfl), ha.s1.nil, ha.s1.cap⟩, ⟨(hS.rd 6 rfl), ha.s2.nil, ha.s2.cap⟩, ⟨(hS.rd 5 rfl), ha.s3.nil, ha.s3.cap⟩, ⟨(hS.rd 4 rfl), ha.s4.nil, ha.s4.cap⟩⟩) hx1 hb1 (by omega)) ?_)
  rintro _ w21 ⟨ro17, rc18, rfl, ho19, hb20⟩
  replace hS := hS.call hb20
  replace hS := hS.addR ho19.rd
  refine ⟨_, rfl, (hS.part (.cons_cons _ (.cons_cons _ (.cons_cons _ (.cons_cons _ .slnil)))) ⟨⟨1, rfl⟩, ⟨⟨2, rfl⟩, ⟨⟨3, rfl⟩, ⟨⟨4, rfl⟩, ⟨⟨5, rfl⟩, ⟨⟨6, rfl⟩, ⟨⟨7, rfl⟩, ⟨⟨8, rfl⟩, trivial⟩⟩⟩⟩⟩⟩⟩⟩ .slnil), ?_⟩
  intro a hA
  refine any_one (by kernel_rfl) (op_call hA 5 rfl rfl rfl rfl (enters_func  rfl rfl (fun w => by kernel_rfl)) (rrow_any (show Nm _ (Q6.whole b2 x2) u1 uc1 u2 uc2 u3 uc3 u4 uc4 from ⟨⟨(hS.rd 4 rfl), hu.s1.nil, hu.s1.cap⟩, ⟨(hS.rd 3 rfl), hu.s2.nil, hu.s2.cap⟩, ⟨(hS.rd 2 rfl), hu.s3.nil, hu.s3.cap⟩, ⟨(hS.rd 1 rfl), hu.s4.nil, hu.s4.cap⟩⟩) hx2 hb2 (by omega)) ?_)
  rintro _ w26 ⟨ro22, rc23, rfl, ho24, hb25⟩
  replace hS := hS.call hb25
  replace hS := hS.addR ho24.rd
  refine ⟨_, rfl, (hS.part (.cons_cons _ (.cons_cons _ (.cons_cons _ (.cons_cons _ .slnil)))) ⟨⟨2, rfl⟩, ⟨⟨3, rfl⟩, ⟨⟨4, rfl⟩, ⟨⟨5, rfl⟩, ⟨⟨6, rfl⟩, ⟨⟨7, rfl⟩, ⟨⟨8, rfl⟩, ⟨⟨9, rfl⟩, trivial⟩⟩⟩⟩⟩⟩⟩⟩ .slnil), ?_⟩
  intro a hA
  refine any_take hA 6 rfl rfl rfl rfl (by kernel_rfl) (by kernel_rfl) (by kernel_rfl) (fun c a w h => hP c a _ _ w h) (hS.part (.cons_cons _ (.cons_cons _ (.cons_cons _ (.cons_cons _ .slnil)))) ⟨⟨2, rfl⟩, ⟨⟨3, rfl⟩, ⟨⟨4, rfl⟩, ⟨⟨5, rfl⟩, ⟨⟨6, rfl⟩, ⟨⟨7, rfl⟩, ⟨⟨8, rfl⟩, ⟨⟨9, rfl⟩, trivial⟩⟩⟩⟩⟩⟩⟩⟩ .slnil) (fun w1 hS => does_assign rfl) ?_
  intro a hA
  refine any_take hA 7 rfl rfl rfl rfl (by kernel_rfl) (by kernel_rfl) (by kernel_rfl) (fun c a w h => hP c a _ _ w h) (hS.part (.cons_cons _ (.cons_cons _ (.cons_cons _ (.cons_cons _ .slnil)))) ⟨⟨2, rfl⟩, ⟨⟨3, rfl⟩, ⟨⟨4, rfl⟩, ⟨⟨5, rfl⟩, ⟨⟨6, rfl⟩, ⟨⟨7, rfl⟩, ⟨⟨8, rfl⟩, ⟨⟨9, rfl⟩, trivial⟩⟩⟩⟩⟩⟩⟩⟩ .slnil) (fun w1 hS => does_assign rfl) ?_
  intro a hA
  refine any_end (by kernel_rfl) ?_
  refine hK16 _ _ ?_
  refine wp_seq_k (fun K27 hK27 => ?_)
  refine wp_region_lit ?_
  refine seq_empty hA hS rfl rfl rfl (does_buildSlice rfl (by kernel_rfl)) ?_
  intro g28 w29 hS a hA
  refine seq_do hA rfl rfl rfl (does_assign rfl) ?_
  intro a hA
  refine seq_end ?_
  refine hK27 _ _ ?_
  refine wp_seq_k (fun K30 hK30 => ?_)
  refine wp_seq_k (fun K31 hK31 => ?_)
  refine wp_region_lit ?_
  refine seq_do hA rfl rfl rfl (does_assign rfl) ?_
  intro a hA
  refine seq_end ?_
  refine hK31 _ _ ?_
  refine wp_block ?_
  refine wp_loop_n (fun m a w1 => ∃ (i : Nat) (ro : Option Addr) (rc : Nat), m = (words x1).length + (words x2).length + 1 - i ∧ (i ≤ (words x1).length + (words x2).length + 1) ∧ Sl a 89 [(0, .int .i64 3), (1, .agg #[.bool b1, .slice a1 ((words x1).length) ac1, .slice a2 1 ac2, .bool false, .slice a3 0 ac3, .slice a4 1 ac4]), (2, .agg #[.bool b2, .slice u1 ((words x2).length) uc1, .slice u2 1 uc2, .bool false, .slice u3 0 uc3, .slice u4 1 uc4]), (4, .pointer (some ⟨g2, 0, none⟩)), (5, .pointer (some ⟨g4, 0, none⟩)), (6, .pointer (some ⟨g6, 0, none⟩)), (7, .int .i64 0), (8, .int .i64 0), (9, .int .i64 ((((words x1).length + (words x2).length + 1 : Nat) : Int))), (10, .slice ro17 ((rowL b1 (x1 - b1.toNat) ((words x1).length + (words x2).length + 1)).length) rc18), (11, .slice ro22 ((rowL b2 (x2 - b2.toNat) ((words x1).length + (words x2).length + 1)).length) rc23), (12, .slice ro ((((List.range ((words x1).length + (words x2).length + 1)).map (fun i => rwd b1 (x1 - b1.toNat) i ^^^ rwd b2 (x2 - b2.toNat) i)).take i).length) rc), (13, .int .i64 (((i : Nat) : Int))), (14, .agg #[.bool b1, .slice a1 ((words x1).length) ac1, .slice a2 1 ac2, .bool false, .slice a3 0 ac3, .slice a4 1 ac4]), (15, .agg #[.bool b2, .slice u1 ((words x2).length) uc1, .slice u2 1 uc2, .bool false, .slice u3 0 uc3, .slice u4 1 uc4]), (16, .slice (some ⟨g9, 0, none⟩) 2 2), (17, .int .i64 0), (18, .int .i64 0), (19, .bool false), (22, .pointer (some ⟨g2, 0, none⟩)), (23, .pointer (some ⟨g2, 1, none⟩)), (24, .slice a1 ((words x1).length) ac1), (25, .int .i64 ((((words x1).length : Nat) : Int))), (26, .pointer (some ⟨g4, 0, none⟩)), (27, .pointer (some ⟨g4, 1, none⟩)), (28, .slice u1 ((words x2).length) uc1), (29, .int .i64 ((((words x2).length : Nat) : Int))), (30, .int .i64 ((((words x1).length + (words x2).length : Nat) : Int))), (31, .int .i64 ((((words x1).length + (words x2).length + 1 : Nat) : Int))), (32, .agg #[.bool b1, .slice a1 ((words x1).length) ac1, .slice a2 1 ac2, .bool false, .slice a3 0 ac3, .slice a4 1 ac4]), (33, .int .i64 ((((words x1).length + (words x2).length + 1 : Nat) : Int))), (34, .slice ro17 ((rowL b1 (x1 - b1.toNat) ((words x1).length + (words x2).length + 1)).length) rc18), (35, .agg #[.bool b2, .slice u1 ((words x2).length) uc1, .slice u2 1 uc2, .bool false, .slice u3 0 uc3, .slice u4 1 uc4]), (36, .int .i64 ((((words x1).length + (words x2).length + 1 : Nat) : Int))), (37, .slice ro22 ((rowL b2 (x2 - b2.toNat) ((words x1).length + (words x2).length + 1)).length) rc23), (38, .slice (some ⟨g28, 0, none⟩) 0 0)] ∧ St w w1 [(g9, [.bool b1, .slice a1 ((words x1).length) ac1, .slice a2 1 ac2, .bool false, .slice a3 0 ac3, .slice a4 1 ac4, .bool b2, .slice u1 ((words x2).length) uc1, .slice u2 1 uc2, .bool false, .slice u3 0 uc3, .slice u4 1 uc4]), (g6, [.bool false, .slice none 0 0, .slice none 0 0, .bool false, .slice none 0 0, .slice none 0 0]), (g4, [.bool b2, .slice u1 ((words x2).length) uc1, .slice u2 1 uc2, .bool false, .slice u3 0 uc3, .slice u4 1 uc4]), (g2, [.bool b1, .slice a1 ((words x1).length) ac1, .slice a2 1 ac2, .bool false, .slice a3 0 ac3, .slice a4 1 ac4])] [(ro22, rowL b2 (x2 - b2.toNat) ((words x1).length + (words x2).length + 1)), (ro17, rowL b1 (x1 - b1.toNat) ((words x1).length + (words x2).length + 1)), (u4, [1]), (u3, []), (u2, [1]), (u1, words x2), (a4, [1]), (a3, []), (a2, [1]), (a1, words x1)] [(ro, rc, ((List.range ((words x1).length + (words x2).length + 1)).map (fun i => rwd b1 (x1 - b1.toNat) i ^^^ rwd b2 (x2 - b2.toNat) i)).take i)]) _ ⟨0, some ⟨g28, 0, none⟩, 0, rfl, (Nat.zero_le _), hA.keep _ ⟨rfl, rfl, rfl, rfl, rfl, rfl, rfl, rfl, rfl, rfl, rfl, rfl, rfl, rfl, rfl, rfl, rfl, rfl, rfl, rfl, rfl, rfl, rfl, rfl, rfl, rfl, rfl, rfl, rfl, rfl, rfl, rfl, rfl, rfl, rfl, rfl, trivial⟩, hS⟩ ?_
  clear hS hA
  rintro m a w32 ⟨i, ro, rc, rfl, hinv34, hA, hS⟩ K33 hK33
  have htl9 : (((List.range ((words x1).length + (words x2).length + 1)).map (fun i => rwd b1 (x1 - b1.toNat) i ^^^ rwd b2 (x2 - b2.toNat) i)).take i).length ≤ (words x1).length + (words x2).length + 1 := by rw [List.length_take, mapr_len]; omega
  refine wp_seq_k (fun K35 hK35 => ?_)
  refine wp_seq_k (fun K36 hK36 => ?_)
  refine wp_region_lit ?_
  refine seq_do hA rfl rfl rfl (does_move rfl) ?_
  intro a hA
  refine seq_do hA rfl rfl rfl (does_move rfl) ?_
  intro a hA
  rcases Bool.eq_false_or_eq_true (decide (((i : Nat) : Int) < (((words x1).length + (words x2).length + 1 : Nat) : Int))) with hb37 | hb37
  · have hb37' := of_decide_eq_true hb37
    refine seq_do (v := .bool true) hA rfl rfl rfl (does_bin rfl rfl (fun w => (bin_lss w).trans (by rw [hb37]))) ?_
    intro a hA
    refine seq_end ?_
    refine hK36 _ _ ?_
    refine wp_cond_true (hA.ev rfl) ?_
    refine wp_skip ?_
    refine hK35 _ _ ?_
    refine wp_seq_k (fun K38 hK38 => ?_)
    refine wp_block ?_
    refine wp_seq_k (fun K39 hK39 => ?_)
    refine wp_region_lit ?_
    refine seq_do hA rfl rfl rfl (does_move rfl) ?_
    intro a hA
    refine seq_end ?_
    refine hK39 _ _ ?_
    refine wp_block ?_
    refine wp_seq_k (fun K40 hK40 => ?_)
    refine wp_region_lit ?_
    refine seq_do (v := .bool false) hA rfl rfl rfl (does_bin rfl rfl (fun w => by kernel_rfl)) ?_
    intro a hA
    refine seq_do hA rfl rfl rfl (does_assign rfl) ?_
    intro a hA
    refine seq_end ?_
    refine hK40 _ _ ?_
    refine wp_cond_false (hA.ev rfl) ?_
    refine wp_seq_k (fun K41 hK41 => ?_)
    refine wp_region_lit ?_
    refine seq_do (v := .bool false) hA rfl rfl rfl (does_bin rfl rfl (fun w => by kernel_rfl)) ?_
    intro a hA
    refine seq_do hA rfl rfl rfl (does_assign rfl) ?_
    intro a hA
    refine seq_end ?_
    refine hK41 _ _ ?_
    refine wp_cond_false (hA.ev rfl) ?_
    refine wp_draw (S := fun w1 => St w w1 [(g9, [.bool b1, .slice a1 ((words x1).length) ac1, .slice a2 1 ac2, .bool false, .slice a3 0 ac3, .slice a4 1 ac4, .bool b2, .slice u1 ((words x2).length) uc1, .slice u2 1 uc2, .bool false, .slice u3 0 uc3, .slice u4 1 uc4]), (g6, [.bool false, .slice none 0 0, .slice none 0 0, .bool false, .slice none 0 0, .slice none 0 0]), (g4, [.bool b2, .slice u1 ((words x2).length) uc1, .slice u2 1 uc2, .bool false, .slice u3 0 uc3, .slice u4 1 uc4]), (g2, [.bool b1, .slice a1 ((words x1).length) ac1, .slice a2 1 ac2, .bool false, .slice a3 0 ac3, .slice a4 1 ac4])] [(ro22, rowL b2 (x2 - b2.toNat) ((words x1).length + (words x2).length + 1)), (ro17, rowL b1 (x1 - b1.toNat) ((words x1).length + (words x2).length + 1)), (u4, [1]), (u3, []), (u2, [1]), (u1, words x2), (a4, [1]), (a3, []), (a2, [1]), (a1, words x1)] []) (by kernel_rfl) ?_
    replace hS := hS.drew
    refine any_take hA 0 rfl rfl rfl rfl (by kernel_rfl) (by kernel_rfl) (by kernel_rfl) (fun c a w h => hP c a _ _ w h) (hS.part (.cons_cons _ (.cons_cons _ (.cons_cons _ (.cons_cons _ .slnil)))) ⟨⟨0, rfl⟩, ⟨⟨1, rfl⟩, ⟨⟨2, rfl⟩, ⟨⟨3, rfl⟩, ⟨⟨4, rfl⟩, ⟨⟨5, rfl⟩, ⟨⟨6, rfl⟩, ⟨⟨7, rfl⟩, ⟨⟨8, rfl⟩, ⟨⟨9, rfl⟩, trivial⟩⟩⟩⟩⟩⟩⟩⟩⟩⟩ (.cons _ .slnil)) (fun w1 hS => does_move rfl) ?_
    intro a hA
    refine any_take hA 1 rfl rfl rfl rfl (by kernel_rfl) (by kernel_rfl) (by kernel_rfl) (fun c a w h => hP c a _ _ w h) (hS.part (.cons_cons _ (.cons_cons _ (.cons_cons _ (.cons_cons _ .slnil)))) ⟨⟨0, rfl⟩, ⟨⟨1, rfl⟩, ⟨⟨2, rfl⟩, ⟨⟨3, rfl⟩, ⟨⟨4, rfl⟩, ⟨⟨5, rfl⟩, ⟨⟨6, rfl⟩, ⟨⟨7, rfl⟩, ⟨⟨8, rfl⟩, ⟨⟨9, rfl⟩, trivial⟩⟩⟩⟩⟩⟩⟩⟩⟩⟩ (.cons _ .slnil)) (fun w1 hS => does_move rfl) ?_
    intro a hA
    refine any_take hA 2 rfl rfl rfl rfl (by kernel_rfl) (by kernel_rfl) (by kernel_rfl) (fun c a w h => hP c a _ _ w h) (hS.part (.cons_cons _ (.cons_cons _ (.cons_cons _ (.cons_cons _ .slnil)))) ⟨⟨0, rfl⟩, ⟨⟨1, rfl⟩, ⟨⟨2, rfl⟩, ⟨⟨3, rfl⟩, ⟨⟨4, rfl⟩, ⟨⟨5, rfl⟩, ⟨⟨6, rfl⟩, ⟨⟨7, rfl⟩, ⟨⟨8, rfl⟩, ⟨⟨9, rfl⟩, trivial⟩⟩⟩⟩⟩⟩⟩⟩⟩⟩ (.cons _ .slnil)) (fun w1 hS => does_move rfl) ?_
    intro a hA
    have hi45 : i < (rowL b1 (x1 - b1.toNat) ((words x1).length + (words x2).length + 1)).length := by first | omega | (simp only [List.length_set]; omega) | (rw [rowL_len]; omega)
    obtain ⟨b42, f43, hso44⟩ := Rd.addr (hS.rd 1 rfl) hi45
    refine any_take (v := .pointer (some ⟨b42, f43 + i, none⟩)) hA 3 rfl rfl rfl rfl (by kernel_rfl) (by kernel_rfl) (by kernel_rfl) (fun c a w h => hP c a _ _ w h) (hS.part (.cons_cons _ (.cons_cons _ (.cons_cons _ (.cons_cons _ .slnil)))) ⟨⟨0, rfl⟩, ⟨⟨1, rfl⟩, ⟨⟨2, rfl⟩, ⟨⟨3, rfl⟩, ⟨⟨4, rfl⟩, ⟨⟨5, rfl⟩, ⟨⟨6, rfl⟩, ⟨⟨7, rfl⟩, ⟨⟨8, rfl⟩, ⟨⟨9, rfl⟩, trivial⟩⟩⟩⟩⟩⟩⟩⟩⟩⟩ (.cons _ .slnil)) (fun w1 hS => does_indexRow (k := i) Try.underlying22 (by kernel_rfl) rfl rfl (by omega) hso44 hi45) ?_
    intro a hA
    refine any_take (v := .int .u32 ((((rowL b1 (x1 - b1.toNat) ((words x1).length + (words x2).length + 1)).getD i 0 : Nat) : Int))) hA 4 rfl rfl rfl rfl (by kernel_rfl) (by kernel_rfl) (by kernel_rfl) (fun c a w h => hP c a _ _ w h) (hS.part (.cons_cons _ (.cons_cons _ (.cons_cons _ (.cons_cons _ .slnil)))) ⟨⟨0, rfl⟩, ⟨⟨1, rfl⟩, ⟨⟨2, rfl⟩, ⟨⟨3, rfl⟩, ⟨⟨4, rfl⟩, ⟨⟨5, rfl⟩, ⟨⟨6, rfl⟩, ⟨⟨7, rfl⟩, ⟨⟨8, rfl⟩, ⟨⟨9, rfl⟩, trivial⟩⟩⟩⟩⟩⟩⟩⟩⟩⟩ (.cons _ .slnil)) (fun w1 hS => does_loadRow (hS.rd 1 rfl) hso44 hi45 is1_41 rfl) ?_
    intro a hA
    refine any_take hA 5 rfl rfl rfl rfl (by kernel_rfl) (by kernel_rfl) (by kernel_rfl) (fun c a w h => hP c a _ _ w h) (hS.part (.cons_cons _ (.cons_cons _ (.cons_cons _ (.cons_cons _ .slnil)))) ⟨⟨0, rfl⟩, ⟨⟨1, rfl⟩, ⟨⟨2, rfl⟩, ⟨⟨3, rfl⟩, ⟨⟨4, rfl⟩, ⟨⟨5, rfl⟩, ⟨⟨6, rfl⟩, ⟨⟨7, rfl⟩, ⟨⟨8, rfl⟩, ⟨⟨9, rfl⟩, trivial⟩⟩⟩⟩⟩⟩⟩⟩⟩⟩ (.cons _ .slnil)) (fun w1 hS => does_move rfl) ?_
    intro a hA
    refine any_take hA 6 rfl rfl rfl rfl (by kernel_rfl) (by kernel_rfl) (by kernel_rfl) (fun c a w h => hP c a _ _ w h) (hS.part (.cons_cons _ (.cons_cons _ (.cons_cons _ (.cons_cons _ .slnil)))) ⟨⟨0, rfl⟩, ⟨⟨1, rfl⟩, ⟨⟨2, rfl⟩, ⟨⟨3, rfl⟩, ⟨⟨4, rfl⟩, ⟨⟨5, rfl⟩, ⟨⟨6, rfl⟩, ⟨⟨7, rfl⟩, ⟨⟨8, rfl⟩, ⟨⟨9, rfl⟩, trivial⟩⟩⟩⟩⟩⟩⟩⟩⟩⟩ (.cons _ .slnil)) (fun w1 hS => does_move rfl) ?_
    intro a hA
    have hi49 : i < (rowL b2 (x2 - b2.toNat) ((words x1).length + (words x2).length + 1)).length := by first | omega | (simp only [List.length_set]; omega) | (rw [rowL_len]; omega)
    obtain ⟨b46, f47, hso48⟩ := Rd.addr (hS.rd 0 rfl) hi49
    refine any_take (v := .pointer (some ⟨b46, f47 + i, none⟩)) hA 7 rfl rfl rfl rfl (by kernel_rfl) (by kernel_rfl) (by kernel_rfl) (fun c a w h => hP c a _ _ w h) (hS.part (.cons_cons _ (.cons_cons _ (.cons_cons _ (.cons_cons _ .slnil)))) ⟨⟨0, rfl⟩, ⟨⟨1, rfl⟩, ⟨⟨2, rfl⟩, ⟨⟨3, rfl⟩, ⟨⟨4, rfl⟩, ⟨⟨5, rfl⟩, ⟨⟨6, rfl⟩, ⟨⟨7, rfl⟩, ⟨⟨8, rfl⟩, ⟨⟨9, rfl⟩, trivial⟩⟩⟩⟩⟩⟩⟩⟩⟩⟩ (.cons _ .slnil)) (fun w1 hS => does_indexRow (k := i) Try.underlying22 (by kernel_rfl) rfl rfl (by omega) hso48 hi49) ?_
    intro a hA
    refine any_take (v := .int .u32 ((((rowL b2 (x2 - b2.toNat) ((words x1).length + (words x2).length + 1)).getD i 0 : Nat) : Int))) hA 8 rfl rfl rfl rfl (by kernel_rfl) (by kernel_rfl) (by kernel_rfl) (fun c a w h => hP c a _ _ w h) (hS.part (.cons_cons _ (.cons_cons _ (.cons_cons _ (.cons_cons _ .slnil)))) ⟨⟨0, rfl⟩, ⟨⟨1, rfl⟩, ⟨⟨2, rfl⟩, ⟨⟨3, rfl⟩, ⟨⟨4, rfl⟩, ⟨⟨5, rfl⟩, ⟨⟨6, rfl⟩, ⟨⟨7, rfl⟩, ⟨⟨8, rfl⟩, ⟨⟨9, rfl⟩, trivial⟩⟩⟩⟩⟩⟩⟩⟩⟩⟩ (.cons _ .slnil)) (fun w1 hS => does_loadRow (hS.rd 0 rfl) hso48 hi49 is1_41 rfl) ?_
    intro a hA
    refine any_take (v := .int .u32 ((((rowL b1 (x1 - b1.toNat) ((words x1).length + (words x2).length + 1)).getD i 0 ^^^ (rowL b2 (x2 - b2.toNat) ((words x1).length + (words x2).length + 1)).getD i 0 : Nat) : Int))) hA 9 rfl rfl rfl rfl (by kernel_rfl) (by kernel_rfl) (by kernel_rfl) (fun c a w h => hP c a _ _ w h) (hS.part (.cons_cons _ (.cons_cons _ (.cons_cons _ (.cons_cons _ .slnil)))) ⟨⟨0, rfl⟩, ⟨⟨1, rfl⟩, ⟨⟨2, rfl⟩, ⟨⟨3, rfl⟩, ⟨⟨4, rfl⟩, ⟨⟨5, rfl⟩, ⟨⟨6, rfl⟩, ⟨⟨7, rfl⟩, ⟨⟨8, rfl⟩, ⟨⟨9, rfl⟩, trivial⟩⟩⟩⟩⟩⟩⟩⟩⟩⟩ (.cons _ .slnil)) (fun w1 hS => does_bin rfl rfl (bin_xor (Dig.getD (rowL_dig _ _ _) _) (Dig.getD (rowL_dig _ _ _) _) rfl)) ?_
    intro a hA
    refine any_one (by kernel_rfl) (op_newU (us := [(rowL b1 (x1 - b1.toNat) ((words x1).length + (words x2).length + 1)).getD i 0 ^^^ (rowL b2 (x2 - b2.toNat) ((words x1).length + (words x2).length + 1)).getD i 0]) (t := 41) (m := 1) hA hS 10 rfl rfl rfl rfl (does_buildSlice rfl (by kernel_rfl)) (by intro z hz; rw [List.mem_singleton] at hz; subst hz; exact (xor_op.lt _ _ (Dig.getD (rowL_dig _ _ _) _) (Dig.getD (rowL_dig _ _ _) _))) ?_)
    intro g50 w51 hS
    refine ⟨(hS.part (.cons_cons _ (.cons_cons _ (.cons_cons _ (.cons_cons _ .slnil)))) ⟨⟨1, rfl⟩, ⟨⟨2, rfl⟩, ⟨⟨3, rfl⟩, ⟨⟨4, rfl⟩, ⟨⟨5, rfl⟩, ⟨⟨6, rfl⟩, ⟨⟨7, rfl⟩, ⟨⟨8, rfl⟩, ⟨⟨9, rfl⟩, ⟨⟨10, rfl⟩, trivial⟩⟩⟩⟩⟩⟩⟩⟩⟩⟩ (.cons _ .slnil)), ?_⟩
    intro a hA
    refine any_one (by kernel_rfl) (op_append (k := 0) (us := ((List.range ((words x1).length + (words x2).length + 1)).map (fun i => rwd b1 (x1 - b1.toNat) i ^^^ rwd b2 (x2 - b2.toNat) i)).take i) (news := [(rowL b1 (x1 - b1.toNat) ((words x1).length + (words x2).length + 1)).getD i 0 ^^^ (rowL b2 (x2 - b2.toNat) ((words x1).length + (words x2).length + 1)).getD i 0]) hA 11 rfl rfl rfl rfl (does_append Try.underlying22 rfl (by kernel_rfl) hS 0 rfl rfl rfl 0 rfl rfl rfl (by first | omega | (simp only [List.length_append, List.length_cons, List.length_nil]; omega))) ?_)
    intro g53 rc54 w52 hS
    refine ⟨(hS.part (.cons_cons _ (.cons_cons _ (.cons_cons _ (.cons_cons _ .slnil)))) ⟨⟨1, rfl⟩, ⟨⟨2, rfl⟩, ⟨⟨3, rfl⟩, ⟨⟨4, rfl⟩, ⟨⟨5, rfl⟩, ⟨⟨6, rfl⟩, ⟨⟨7, rfl⟩, ⟨⟨8, rfl⟩, ⟨⟨9, rfl⟩, ⟨⟨10, rfl⟩, trivial⟩⟩⟩⟩⟩⟩⟩⟩⟩⟩ (.cons _ .slnil)), ?_⟩
    intro a hA
    refine any_take hA 12 rfl rfl rfl rfl (by kernel_rfl) (by kernel_rfl) (by kernel_rfl) (fun c a w h => hP c a _ _ w h) (hS.part (.cons_cons _ (.cons_cons _ (.cons_cons _ (.cons_cons _ .slnil)))) ⟨⟨1, rfl⟩, ⟨⟨2, rfl⟩, ⟨⟨3, rfl⟩, ⟨⟨4, rfl⟩, ⟨⟨5, rfl⟩, ⟨⟨6, rfl⟩, ⟨⟨7, rfl⟩, ⟨⟨8, rfl⟩, ⟨⟨9, rfl⟩, ⟨⟨10, rfl⟩, trivial⟩⟩⟩⟩⟩⟩⟩⟩⟩⟩ (.cons _ .slnil)) (fun w1 hS => does_assign rfl) ?_
    intro a hA
    refine any_end (by kernel_rfl) ?_
    refine hK38 _ _ ?_
    refine wp_region_lit ?_
    refine seq_do hA rfl rfl rfl (does_move rfl) ?_
    intro a hA
    refine seq_do (v := .int .i64 (((i + 1 : Nat) : Int))) hA rfl rfl rfl (does_bin rfl rfl (fun w => (bin_add (i64In (by omega) (by omega)) w).trans (by rw [show (((i : Nat) : Int) + 1 : Int) = ((i + 1 : Nat) : Int) from by omega]))) ?_
    intro a hA
    refine seq_do hA rfl rfl rfl (does_assign rfl) ?_
    intro a hA
    refine seq_end ?_
    rw [take_snoc (u := (List.range ((words x1).length + (words x2).length + 1)).map (fun i => rwd b1 (x1 - b1.toNat) i ^^^ rwd b2 (x2 - b2.toNat) i)) (by rw [mapr_len]; omega) (by rw [mapr_get (by omega), rowL_get (by omega), rowL_get (by omega)])] at hS hA
    refine hK33 _ _ _ (by omega) ⟨i + 1, some ⟨g53, 0, none⟩, rc54, rfl, (by omega), hA.keep _ ⟨rfl, rfl, rfl, rfl, rfl, rfl, rfl, rfl, rfl, rfl, rfl, rfl, rfl, rfl, rfl, rfl, rfl, rfl, rfl, rfl, rfl, rfl, rfl, rfl, rfl, rfl, rfl, rfl, rfl, rfl, rfl, rfl, rfl, rfl, rfl, rfl, trivial⟩, ((hS.pickR [(ro22, rowL b2 (x2 - b2.toNat) ((words x1).length + (words x2).length + 1)), (ro17, rowL b1 (x1 - b1.toNat) ((words x1).length + (words x2).length + 1)), (u4, [1]), (u3, []), (u2, [1]), (u1, words x2), (a4, [1]), (a3, []), (a2, [1]), (a1, words x1)] ⟨⟨1, rfl⟩, ⟨⟨2, rfl⟩, ⟨⟨3, rfl⟩, ⟨⟨4, rfl⟩, ⟨⟨5, rfl⟩, ⟨⟨6, rfl⟩, ⟨⟨7, rfl⟩, ⟨⟨8, rfl⟩, ⟨⟨9, rfl⟩, ⟨⟨10, rfl⟩, trivial⟩⟩⟩⟩⟩⟩⟩⟩⟩⟩).subL _ (.cons_cons _ (.cons_cons _ (.cons_cons _ (.cons_cons _ .slnil)))))⟩
  · have hb37' := of_decide_eq_false hb37
    refine seq_do (v := .bool false) hA rfl rfl rfl (does_bin rfl rfl (fun w => (bin_lss w).trans (by rw [hb37]))) ?_
    intro a hA
    refine seq_end ?_
    refine hK36 _ _ ?_
    refine wp_cond_false (hA.ev rfl) ?_
    refine wp_exit ?_
    refine hK30 _ _ ?_
    refine wp_seq_k (fun K55 hK55 => ?_)
    refine wp_region_lit ?_
    refine seq_do hA rfl rfl rfl (does_move rfl) ?_
    intro a hA
    refine seq_call hA rfl rfl rfl (enters_func  rfl rfl (fun w => by kernel_rfl)) (rnumber_any (u := outL (fun x y => x ^^^ y) (fun b c => b != c) b1 (x1 - b1.toNat) b2 (x2 - b2.toNat) ((words x1).length + (words x2).length + 1)) (s := (b1 != b2)) (outL_dig xor_op _) (by rw [outL_len]; omega) (by rw [outL_len]; omega) (by rw [outL_len, outL_get (by omega)]; exact outW_end xor_op (by have := sub_len (b := b1) (Nat.le_refl (words x1).length); omega) (by have := sub_len (b := b2) (Nat.le_refl (words x2).length); omega)) (by rw [mapr_all (by omega)]; exact both_twos) (hS.row 0 rfl).sc) ?_
    rintro _ w59 ⟨p56_1, p56_c1, p56_2, p56_c2, p56_3, p56_c3, p56_4, p56_c4, rfl, hn57, hb58⟩
    replace hS := hS.subO [] (.cons _ .slnil)
    replace hS := hS.call hb58
    replace hS := hS.addR hn57.s1.rd
    replace hS := hS.addR hn57.s2.rd
    replace hS := hS.addR hn57.s3.rd
    replace hS := hS.addR hn57.s4.rd
    refine ⟨_, rfl, ?_⟩
    intro a hA
    refine seq_do (v := .agg #[.bool ((bigS (b1 != b2) (val (outL (fun x y => x ^^^ y) (fun b c => b != c) b1 (x1 - b1.toNat) b2 (x2 - b2.toNat) ((words x1).length + (words x2).length + 1)) + (b1 != b2).toNat)).1.b1), .slice p56_1 (((bigS (b1 != b2) (val (outL (fun x y => x ^^^ y) (fun b c => b != c) b1 (x1 - b1.toNat) b2 (x2 - b2.toNat) ((words x1).length + (words x2).length + 1)) + (b1 != b2).toNat)).1.t1).length) p56_c1, .slice p56_2 (((bigS (b1 != b2) (val (outL (fun x y => x ^^^ y) (fun b c => b != c) b1 (x1 - b1.toNat) b2 (x2 - b2.toNat) ((words x1).length + (words x2).length + 1)) + (b1 != b2).toNat)).1.q1).length) p56_c2, .bool ((bigS (b1 != b2) (val (outL (fun x y => x ^^^ y) (fun b c => b != c) b1 (x1 - b1.toNat) b2 (x2 - b2.toNat) ((words x1).length + (words x2).length + 1)) + (b1 != b2).toNat)).1.b2), .slice p56_3 (((bigS (b1 != b2) (val (outL (fun x y => x ^^^ y) (fun b c => b != c) b1 (x1 - b1.toNat) b2 (x2 - b2.toNat) ((words x1).length + (words x2).length + 1)) + (b1 != b2).toNat)).1.t2).length) p56_c3, .slice p56_4 (((bigS (b1 != b2) (val (outL (fun x y => x ^^^ y) (fun b c => b != c) b1 (x1 - b1.toNat) b2 (x2 - b2.toNat) ((words x1).length + (words x2).length + 1)) + (b1 != b2).toNat)).1.q2).length) p56_c4]) hA rfl rfl rfl (does_extract (vs := [.agg #[.bool ((bigS (b1 != b2) (val (outL (fun x y => x ^^^ y) (fun b c => b != c) b1 (x1 - b1.toNat) b2 (x2 - b2.toNat) ((words x1).length + (words x2).length + 1)) + (b1 != b2).toNat)).1.b1), .slice p56_1 (((bigS (b1 != b2) (val (outL (fun x y => x ^^^ y) (fun b c => b != c) b1 (x1 - b1.toNat) b2 (x2 - b2.toNat) ((words x1).length + (words x2).length + 1)) + (b1 != b2).toNat)).1.t1).length) p56_c1, .slice p56_2 (((bigS (b1 != b2) (val (outL (fun x y => x ^^^ y) (fun b c => b != c) b1 (x1 - b1.toNat) b2 (x2 - b2.toNat) ((words x1).length + (words x2).length + 1)) + (b1 != b2).toNat)).1.q1).length) p56_c2, .bool ((bigS (b1 != b2) (val (outL (fun x y => x ^^^ y) (fun b c => b != c) b1 (x1 - b1.toNat) b2 (x2 - b2.toNat) ((words x1).length + (words x2).length + 1)) + (b1 != b2).toNat)).1.b2), .slice p56_3 (((bigS (b1 != b2) (val (outL (fun x y => x ^^^ y) (fun b c => b != c) b1 (x1 - b1.toNat) b2 (x2 - b2.toNat) ((words x1).length + (words x2).length + 1)) + (b1 != b2).toNat)).1.t2).length) p56_c3, .slice p56_4 (((bigS (b1 != b2) (val (outL (fun x y => x ^^^ y) (fun b c => b != c) b1 (x1 - b1.toNat) b2 (x2 - b2.toNat) ((words x1).length + (words x2).length + 1)) + (b1 != b2).toNat)).1.q2).length) p56_c4], .int .i64 ((bigS (b1 != b2) (val (outL (fun x y => x ^^^ y) (fun b c => b != c) b1 (x1 - b1.toNat) b2 (x2 - b2.toNat) ((words x1).length + (words x2).length + 1)) + (b1 != b2).toNat)).2)]) rfl rfl) ?_
    intro a hA
    refine seq_do (v := .int .i64 ((bigS (b1 != b2) (val (outL (fun x y => x ^^^ y) (fun b c => b != c) b1 (x1 - b1.toNat) b2 (x2 - b2.toNat) ((words x1).length + (words x2).length + 1)) + (b1 != b2).toNat)).2)) hA rfl rfl rfl (does_extract (vs := [.agg #[.bool ((bigS (b1 != b2) (val (outL (fun x y => x ^^^ y) (fun b c => b != c) b1 (x1 - b1.toNat) b2 (x2 - b2.toNat) ((words x1).length + (words x2).length + 1)) + (b1 != b2).toNat)).1.b1), .slice p56_1 (((bigS (b1 != b2) (val (outL (fun x y => x ^^^ y) (fun b c => b != c) b1 (x1 - b1.toNat) b2 (x2 - b2.toNat) ((words x1).length + (words x2).length + 1)) + (b1 != b2).toNat)).1.t1).length) p56_c1, .slice p56_2 (((bigS (b1 != b2) (val (outL (fun x y => x ^^^ y) (fun b c => b != c) b1 (x1 - b1.toNat) b2 (x2 - b2.toNat) ((words x1).length + (words x2).length + 1)) + (b1 != b2).toNat)).1.q1).length) p56_c2, .bool ((bigS (b1 != b2) (val (outL (fun x y => x ^^^ y) (fun b c => b != c) b1 (x1 - b1.toNat) b2 (x2 - b2.toNat) ((words x1).length + (words x2).length + 1)) + (b1 != b2).toNat)).1.b2), .slice p56_3 (((bigS (b1 != b2) (val (outL (fun x y => x ^^^ y) (fun b c => b != c) b1 (x1 - b1.toNat) b2 (x2 - b2.toNat) ((words x1).length + (words x2).length + 1)) + (b1 != b2).toNat)).1.t2).length) p56_c3, .slice p56_4 (((bigS (b1 != b2) (val (outL (fun x y => x ^^^ y) (fun b c => b != c) b1 (x1 - b1.toNat) b2 (x2 - b2.toNat) ((words x1).length + (words x2).length + 1)) + (b1 != b2).toNat)).1.q2).length) p56_c4], .int .i64 ((bigS (b1 != b2) (val (outL (fun x y => x ^^^ y) (fun b c => b != c) b1 (x1 - b1.toNat) b2 (x2 - b2.toNat) ((words x1).length + (words x2).length + 1)) + (b1 != b2).toNat)).2)]) rfl rfl) ?_
    intro a hA
    refine seq_store (us := [.bool ((bigS (b1 != b2) (val (outL (fun x y => x ^^^ y) (fun b c => b != c) b1 (x1 - b1.toNat) b2 (x2 - b2.toNat) ((words x1).length + (words x2).length + 1)) + (b1 != b2).toNat)).1.b1), .slice p56_1 (((bigS (b1 != b2) (val (outL (fun x y => x ^^^ y) (fun b c => b != c) b1 (x1 - b1.toNat) b2 (x2 - b2.toNat) ((words x1).length + (words x2).length + 1)) + (b1 != b2).toNat)).1.t1).length) p56_c1, .slice p56_2 (((bigS (b1 != b2) (val (outL (fun x y => x ^^^ y) (fun b c => b != c) b1 (x1 - b1.toNat) b2 (x2 - b2.toNat) ((words x1).length + (words x2).length + 1)) + (b1 != b2).toNat)).1.q1).length) p56_c2, .bool ((bigS (b1 != b2) (val (outL (fun x y => x ^^^ y) (fun b c => b != c) b1 (x1 - b1.toNat) b2 (x2 - b2.toNat) ((words x1).length + (words x2).length + 1)) + (b1 != b2).toNat)).1.b2), .slice p56_3 (((bigS (b1 != b2) (val (outL (fun x y => x ^^^ y) (fun b c => b != c) b1 (x1 - b1.toNat) b2 (x2 - b2.toNat) ((words x1).length + (words x2).length + 1)) + (b1 != b2).toNat)).1.t2).length) p56_c3, .slice p56_4 (((bigS (b1 != b2) (val (outL (fun x y => x ^^^ y) (fun b c => b != c) b1 (x1 - b1.toNat) b2 (x2 - b2.toNat) ((words x1).length + (words x2).length + 1)) + (b1 != b2).toNat)).1.q2).length) p56_c4]) hA hS rfl rfl (sets_store (cs := [.bool ((bigS (b1 != b2) (val (outL (fun x y => x ^^^ y) (fun b c => b != c) b1 (x1 - b1.toNat) b2 (x2 - b2.toNat) ((words x1).length + (words x2).length + 1)) + (b1 != b2).toNat)).1.b1), .slice p56_1 (((bigS (b1 != b2) (val (outL (fun x y => x ^^^ y) (fun b c => b != c) b1 (x1 - b1.toNat) b2 (x2 - b2.toNat) ((words x1).length + (words x2).length + 1)) + (b1 != b2).toNat)).1.t1).length) p56_c1, .slice p56_2 (((bigS (b1 != b2) (val (outL (fun x y => x ^^^ y) (fun b c => b != c) b1 (x1 - b1.toNat) b2 (x2 - b2.toNat) ((words x1).length + (words x2).length + 1)) + (b1 != b2).toNat)).1.q1).length) p56_c2, .bool ((bigS (b1 != b2) (val (outL (fun x y => x ^^^ y) (fun b c => b != c) b1 (x1 - b1.toNat) b2 (x2 - b2.toNat) ((words x1).length + (words x2).length + 1)) + (b1 != b2).toNat)).1.b2), .slice p56_3 (((bigS (b1 != b2) (val (outL (fun x y => x ^^^ y) (fun b c => b != c) b1 (x1 - b1.toNat) b2 (x2 - b2.toNat) ((words x1).length + (words x2).length + 1)) + (b1 != b2).toNat)).1.t2).length) p56_c3, .slice p56_4 (((bigS (b1 != b2) (val (outL (fun x y => x ^^^ y) (fun b c => b != c) b1 (x1 - b1.toNat) b2 (x2 - b2.toNat) ((words x1).length + (words x2).length + 1)) + (b1 != b2).toNat)).1.q2).length) p56_c4]) rfl rfl rfl (by kernel_rfl) hS 1 rfl rfl rfl) 1 rfl rfl rfl rfl ?_
    intro w60 hS
    refine seq_do hA rfl rfl rfl (does_assign rfl) ?_
    intro a hA
    refine seq_end ?_
    refine hK55 _ _ ?_
    refine wp_ret ?_
    refine hret _ _ ?_
    refine ends (v := .tuple #[.agg #[.bool ((bigS (b1 != b2) (val (outL (fun x y => x ^^^ y) (fun b c => b != c) b1 (x1 - b1.toNat) b2 (x2 - b2.toNat) ((words x1).length + (words x2).length + 1)) + (b1 != b2).toNat)).1.b1), .slice p56_1 (((bigS (b1 != b2) (val (outL (fun x y => x ^^^ y) (fun b c => b != c) b1 (x1 - b1.toNat) b2 (x2 - b2.toNat) ((words x1).length + (words x2).length + 1)) + (b1 != b2).toNat)).1.t1).length) p56_c1, .slice p56_2 (((bigS (b1 != b2) (val (outL (fun x y => x ^^^ y) (fun b c => b != c) b1 (x1 - b1.toNat) b2 (x2 - b2.toNat) ((words x1).length + (words x2).length + 1)) + (b1 != b2).toNat)).1.q1).length) p56_c2, .bool ((bigS (b1 != b2) (val (outL (fun x y => x ^^^ y) (fun b c => b != c) b1 (x1 - b1.toNat) b2 (x2 - b2.toNat) ((words x1).length + (words x2).length + 1)) + (b1 != b2).toNat)).1.b2), .slice p56_3 (((bigS (b1 != b2) (val (outL (fun x y => x ^^^ y) (fun b c => b != c) b1 (x1 - b1.toNat) b2 (x2 - b2.toNat) ((words x1).length + (words x2).length + 1)) + (b1 != b2).toNat)).1.t2).length) p56_c3, .slice p56_4 (((bigS (b1 != b2) (val (outL (fun x y => x ^^^ y) (fun b c => b != c) b1 (x1 - b1.toNat) b2 (x2 - b2.toNat) ((words x1).length + (words x2).length + 1)) + (b1 != b2).toNat)).1.q2).length) p56_c4], .int .i64 ((bigS (b1 != b2) (val (outL (fun x y => x ^^^ y) (fun b c => b != c) b1 (x1 - b1.toNat) b2 (x2 - b2.toNat) ((words x1).length + (words x2).length + 1)) + (b1 != b2).toNat)).2)]) hA rfl (.cons (res_cell hS isS_26 rfl 1 rfl (cs := [.bool ((bigS (b1 != b2) (val (outL (fun x y => x ^^^ y) (fun b c => b != c) b1 (x1 - b1.toNat) b2 (x2 - b2.toNat) ((words x1).length + (words x2).length + 1)) + (b1 != b2).toNat)).1.b1), .slice p56_1 (((bigS (b1 != b2) (val (outL (fun x y => x ^^^ y) (fun b c => b != c) b1 (x1 - b1.toNat) b2 (x2 - b2.toNat) ((words x1).length + (words x2).length + 1)) + (b1 != b2).toNat)).1.t1).length) p56_c1, .slice p56_2 (((bigS (b1 != b2) (val (outL (fun x y => x ^^^ y) (fun b c => b != c) b1 (x1 - b1.toNat) b2 (x2 - b2.toNat) ((words x1).length + (words x2).length + 1)) + (b1 != b2).toNat)).1.q1).length) p56_c2, .bool ((bigS (b1 != b2) (val (outL (fun x y => x ^^^ y) (fun b c => b != c) b1 (x1 - b1.toNat) b2 (x2 - b2.toNat) ((words x1).length + (words x2).length + 1)) + (b1 != b2).toNat)).1.b2), .slice p56_3 (((bigS (b1 != b2) (val (outL (fun x y => x ^^^ y) (fun b c => b != c) b1 (x1 - b1.toNat) b2 (x2 - b2.toNat) ((words x1).length + (words x2).length + 1)) + (b1 != b2).toNat)).1.t2).length) p56_c3, .slice p56_4 (((bigS (b1 != b2) (val (outL (fun x y => x ^^^ y) (fun b c => b != c) b1 (x1 - b1.toNat) b2 (x2 - b2.toNat) ((words x1).length + (words x2).length + 1)) + (b1 != b2).toNat)).1.q2).length) p56_c4]) rfl rfl) (.cons (res_tmp rfl) .nil)) rfl ?_
    rw [bitQ_whole hw, ← put_val xor_op (n := (words x1).length + (words x2).length + 1) (by have := sub_len (b := b1) (Nat.le_refl (words x1).length); omega) (by have := sub_len (b := b2) (Nat.le_refl (words x2).length); omega)]
    exact ⟨p56_1, p56_c1, p56_2, p56_c2, p56_3, p56_c3, p56_4, p56_c4, rfl, ⟨⟨(hS.rd 3 rfl), hn57.s1.nil, hn57.s1.cap⟩, ⟨(hS.rd 2 rfl), hn57.s2.nil, hn57.s2.cap⟩, ⟨(hS.rd 1 rfl), hn57.s3.nil, hn57.s3.cap⟩, ⟨(hS.rd 0 rfl), hn57.s4.nil, hn57.s4.cap⟩⟩, hS.bel⟩
theorem rowIn_len (b : Bool) (y n : Nat) : (rowL b y n).length = n := rowL_len b y n
theorem rnotE_any {w : World} {q : Q6} {a1 a2 a3 a4 : Option Addr} {ac1 ac2 ac3 ac4 : Nat} (ha : Nm w q a1 ac1 a2 ac2 a3 ac3 a4 ac4) (hl : LenQ q)  (hw : (want1 q != 0) = true) : Calls Try.prog 11 #[numV q a1 ac1 a2 ac2 a3 ac3 a4 ac4] w (AnsN w (notQ q)) := by
  have hS : St w w [] [(a4, q.q2), (a3, q.t2), (a2, q.q1), (a1, q.t1)] [] := ((((St.start w).addR ha.s1.rd).addR ha.s2.rd).addR ha.s3.rd).addR ha.s4.rd
  refine walk_of (l := [(0, .agg #[.bool q.b1, .slice a1 q.t1.length ac1, .slice a2 q.q1.length ac2, .bool q.b2, .slice a3 q.t2.length ac3, .slice a4 q.q2.length ac4])]) Try.func11 rfl Try.ntmps11 rfl rfl ?_
  intro Q hret hnorm hP a hA
  refine wp_seq_k (fun K1 hK1 => ?_)
  refine wp_region_lit ?_
  refine seq_new (vs := [.bool q.b1, .slice a1 q.t1.length ac1, .slice a2 q.q1.length ac2, .bool q.b2, .slice a3 q.t2.length ac3, .slice a4 q.q2.length ac4]) (t := 26) hA hS rfl rfl rfl (fun g => .pointer (some ⟨g, 0, none⟩)) (does_box rfl rfl) rfl ?_
  intro g2 w3 hS a hA
  refine seq_new (vs := [.bool false, .slice none 0 0, .slice none 0 0, .bool false, .slice none 0 0, .slice none 0 0]) (t := 26) hA hS rfl rfl rfl (fun g => .pointer (some ⟨g, 0, none⟩)) (does_alloc (z := .agg #[.bool false, .slice none 0 0, .slice none 0 0, .bool false, .slice none 0 0, .slice none 0 0]) (by kernel_rfl) rfl) rfl ?_
  intro g4 w5 hS a hA
  refine seq_do hA rfl rfl rfl (does_assign rfl) ?_
  intro a hA
  refine seq_end ?_
  refine hK1 _ _ ?_
  refine wp_seq_k (fun K6 hK6 => ?_)
  refine wp_region_lit ?_
  refine seq_do (v := .agg #[.bool q.b1, .slice a1 q.t1.length ac1, .slice a2 q.q1.length ac2, .bool q.b2, .slice a3 q.t2.length ac3, .slice a4 q.q2.length ac4]) hA rfl rfl rfl (does_loadS hS isS_26 rfl 1 rfl (cs := [.bool q.b1, .slice a1 q.t1.length ac1, .slice a2 q.q1.length ac2, .bool q.b2, .slice a3 q.t2.length ac3, .slice a4 q.q2.length ac4]) rfl rfl) ?_
  intro a hA
  refine seq_new (vs := [.bool q.b1, .slice a1 q.t1.length ac1, .slice a2 q.q1.length ac2, .bool q.b2, .slice a3 q.t2.length ac3, .slice a4 q.q2.length ac4]) (t := 26) hA hS rfl rfl rfl (fun g => .slice (some ⟨g, 0, none⟩) 1 1) (does_buildSlice rfl (by kernel_rfl)) rfl ?_
  intro g7 w8 hS a hA
  refine seq_call hA rfl rfl rfl (enters_func  rfl rfl (fun w => by kernel_rfl)) (rcheck1_any (show Nm _ q a1 ac1 a2 ac2 a3 ac3 a4 ac4 from ⟨⟨(hS.rd 3 rfl), ha.s1.nil, ha.s1.cap⟩, ⟨(hS.rd 2 rfl), ha.s2.nil, ha.s2.cap⟩, ⟨(hS.rd 1 rfl), ha.s3.nil, ha.s3.cap⟩, ⟨(hS.rd 0 rfl), ha.s4.nil, ha.s4.cap⟩⟩) hl (hS.blk 0 rfl) rfl) ?_
  rintro _ w10 ⟨rfl, hb9⟩
  replace hS := hS.call hb9
  refine ⟨_, rfl, ?_⟩
  intro a hA
  refine seq_do hA rfl rfl rfl (does_assign rfl) ?_
  intro a hA
  refine seq_end ?_
  refine hK6 _ _ ?_
  refine wp_seq_k (fun K11 hK11 => ?_)
  refine wp_seq_k (fun K12 hK12 => ?_)
  refine wp_region_lit ?_
  refine seq_do hA rfl rfl rfl (does_move rfl) ?_
  intro a hA
  refine seq_do (v := .bool true) hA rfl rfl rfl (does_bin rfl rfl (fun w => (bin_neq w).trans (by rw [show ((want1 q != 0)) = true from hw]))) ?_
  intro a hA
  refine seq_end ?_
  refine hK12 _ _ ?_
  refine wp_cond_true (hA.ev rfl) ?_
  refine wp_seq_k (fun K13 hK13 => ?_)
  refine wp_region_lit ?_
  refine seq_do (v := .agg #[.bool false, .slice none 0 0, .slice none 0 0, .bool false, .slice none 0 0, .slice none 0 0]) hA rfl rfl rfl (does_build rfl (fun w => by kernel_rfl)) ?_
  intro a hA
  refine seq_do hA rfl rfl rfl (does_move rfl) ?_
  intro a hA
  refine seq_store (us := [.bool false, .slice none 0 0, .slice none 0 0, .bool false, .slice none 0 0, .slice none 0 0]) hA hS rfl rfl (sets_store (cs := [.bool false, .slice none 0 0, .slice none 0 0, .bool false, .slice none 0 0, .slice none 0 0]) rfl rfl rfl (by kernel_rfl) hS 1 rfl rfl rfl) 1 rfl rfl rfl rfl ?_
  intro w14 hS
  refine seq_do hA rfl rfl rfl (does_assign rfl) ?_
  intro a hA
  refine seq_end ?_
  refine hK13 _ _ ?_
  refine wp_ret ?_
  refine hret _ _ ?_
  refine ends (v := .tuple #[.agg #[.bool false, .slice none 0 0, .slice none 0 0, .bool false, .slice none 0 0, .slice none 0 0], .int .i64 (want1 q)]) hA rfl (.cons (res_cell hS isS_26 rfl 1 rfl (cs := [.bool false, .slice none 0 0, .slice none 0 0, .bool false, .slice none 0 0, .slice none 0 0]) rfl rfl) (.cons (res_tmp rfl) .nil)) rfl ?_
  rw [notQ_err hw]
  exact ⟨none, 0, none, 0, none, 0, none, 0, rfl, ⟨(Sc.none _), (Sc.none _), (Sc.none _), (Sc.none _)⟩, hS.bel⟩
theorem rnotW_any {w : World} {b : Bool} {x : Nat} {a1 a2 a3 a4 : Option Addr} {ac1 ac2 ac3 ac4 : Nat} (ha : Nm w (Q6.whole b x) a1 ac1 a2 ac2 a3 ac3 a4 ac4) (hl : LenQ (Q6.whole b x))  (hw : want1 (Q6.whole b x) = 0) (hx : (words x).length ≤ 512) (hb : b.toNat ≤ x) : Calls Try.prog 11 #[numV (Q6.whole b x) a1 ac1 a2 ac2 a3 ac3 a4 ac4] w (AnsN w (notQ (Q6.whole b x))) := by
  have hS : St w w [] [(a4, [1]), (a3, []), (a2, [1]), (a1, words x)] [] := ((((St.start w).addR ha.s1.rd).addR ha.s2.rd).addR ha.s3.rd).addR ha.s4.rd
  refine walk_of (l := [(0, .agg #[.bool b, .slice a1 ((words x).length) ac1, .slice a2 1 ac2, .bool false, .slice a3 0 ac3, .slice a4 1 ac4])]) Try.func11 rfl Try.ntmps11 rfl rfl ?_
  intro Q hret hnorm hP a hA
  refine wp_seq_k (fun K1 hK1 => ?_)
  refine wp_region_lit ?_
  refine seq_new (vs := [.bool b, .slice a1 ((words x).length) ac1, .slice a2 1 ac2, .bool false, .slice a3 0 ac3, .slice a4 1 ac4]) (t := 26) hA hS rfl rfl rfl (fun g => .pointer (some ⟨g, 0, none⟩)) (does_box rfl rfl) rfl ?_
  intro g2 w3 hS a hA
  refine seq_new (vs := [.bool false, .slice none 0 0, .slice none 0 0, .bool false, .slice none 0 0, .slice none 0 0]) (t := 26) hA hS rfl rfl rfl (fun g => .pointer (some ⟨g, 0, none⟩)) (does_alloc (z := .agg #[.bool false, .slice none 0 0, .slice none 0 0, .bool false, .slice none 0 0, .slice none 0 0]) (by kernel_rfl) rfl) rfl ?_
  intro g4 w5 hS a hA
  refine seq_do hA rfl rfl rfl (does_assign rfl) ?_
  intro a hA
  refine seq_end ?_
  refine hK1 _ _ ?_
  refine wp_seq_k (fun K6 hK6 => ?_)
  refine wp_region_lit ?_
  refine seq_do (v := .agg #[.bool b, .slice a1 ((words x).length) ac1, .slice a2 1 ac2, .bool false, .slice a3 0 ac3, .slice a4 1 ac4]) hA rfl rfl rfl (does_loadS hS isS_26 rfl 1 rfl (cs := [.bool b, .slice a1 ((words x).length) ac1, .slice a2 1 ac2, .bool false, .slice a3 0 ac3, .slice a4 1 ac4]) rfl rfl) ?_
  intro a hA
  refine seq_new (vs := [.bool b, .slice a1 ((words x).length) ac1, .slice a2 1 ac2, .bool false, .slice a3 0 ac3, .slice a4 1 ac4]) (t := 26) hA hS rfl rfl rfl (fun g => .slice (some ⟨g, 0, none⟩) 1 1) (does_buildSlice rfl (by kernel_rfl)) rfl ?_
  intro g7 w8 hS a hA
  refine seq_call hA rfl rfl rfl (enters_func  rfl rfl (fun w => by kernel_rfl)) (rcheck1_any (show Nm _ (Q6.whole b x) a1 ac1 a2 ac2 a3 ac3 a4 ac4 from ⟨⟨(hS.rd 3 rfl), ha.s1.nil, ha.s1.cap⟩, ⟨(hS.rd 2 rfl), ha.s2.nil, ha.s2.cap⟩, ⟨(hS.rd 1 rfl), ha.s3.nil, ha.s3.cap⟩, ⟨(hS.rd 0 rfl), ha.s4.nil, ha.s4.cap⟩⟩) hl (hS.blk 0 rfl) hw) ?_
  rintro _ w10 ⟨rfl, hb9⟩
  replace hS := hS.call hb9
  refine ⟨_, rfl, ?_⟩
  intro a hA
  refine seq_do hA rfl rfl rfl (does_assign rfl) ?_
  intro a hA
  refine seq_end ?_
  refine hK6 _ _ ?_
  refine wp_seq_k (fun K11 hK11 => ?_)
  refine wp_seq_k (fun K12 hK12 => ?_)
  refine wp_region_lit ?_
  refine seq_do hA rfl rfl rfl (does_move rfl) ?_
  intro a hA
  refine seq_do (v := .bool false) hA rfl rfl rfl (does_bin rfl rfl (fun w => by kernel_rfl)) ?_
  intro a hA
  refine seq_end ?_
  refine hK12 _ _ ?_
  refine wp_cond_false (hA.ev rfl) ?_
  refine wp_skip ?_
  refine hK11 _ _ ?_
  refine wp_seq_k (fun K13 hK13 => ?_)
  refine wp_region_lit ?_
  refine seq_do (v := .agg #[.bool b, .slice a1 ((words x).length) ac1, .slice a2 1 ac2, .bool false, .slice a3 0 ac3, .slice a4 1 ac4]) hA rfl rfl rfl (does_loadS hS isS_26 rfl 2 rfl (cs := [.bool b, .slice a1 ((words x).length) ac1, .slice a2 1 ac2, .bool false, .slice a3 0 ac3, .slice a4 1 ac4]) rfl rfl) ?_
  intro a hA
  refine seq_call hA rfl rfl rfl (enters_func  rfl rfl (fun w => by kernel_rfl)) (rturn_any (show Nm _ _ a1 ac1 a2 ac2 a3 ac3 a4 ac4 from ⟨⟨(hS.rd 3 rfl), ha.s1.nil, ha.s1.cap⟩, ⟨(hS.rd 2 rfl), ha.s2.nil, ha.s2.cap⟩, ⟨(hS.rd 1 rfl), ha.s3.nil, ha.s3.cap⟩, ⟨(hS.rd 0 rfl), ha.s4.nil, ha.s4.cap⟩⟩) (by omega) hb) ?_
  rintro _ w17 ⟨p14_1, p14_c1, p14_2, p14_c2, p14_3, p14_c3, p14_4, p14_c4, rfl, hn15, hb16⟩
  replace hS := hS.call hb16
  replace hS := hS.addR hn15.s1.rd
  replace hS := hS.addR hn15.s2.rd
  replace hS := hS.addR hn15.s3.rd
  replace hS := hS.addR hn15.s4.rd
  refine ⟨_, rfl, ?_⟩
  intro a hA
  refine seq_new (vs := [.bool false, .slice none 0 0, .slice none 0 0, .bool false, .slice none 0 0, .slice none 0 0]) (t := 26) hA hS rfl rfl rfl (fun g => .pointer (some ⟨g, 0, none⟩)) (does_alloc (z := .agg #[.bool false, .slice none 0 0, .slice none 0 0, .bool false, .slice none 0 0, .slice none 0 0]) (by kernel_rfl) rfl) rfl ?_
  intro g18 w19 hS a hA
  refine seq_store (us := [.bool (!b), .slice p14_1 ((words (turnN b x)).length) p14_c1, .slice p14_2 1 p14_c2, .bool false, .slice p14_3 0 p14_c3, .slice p14_4 1 p14_c4]) hA hS rfl rfl (sets_store (cs := [.bool (!b), .slice p14_1 ((words (turnN b x)).length) p14_c1, .slice p14_2 1 p14_c2, .bool false, .slice p14_3 0 p14_c3, .slice p14_4 1 p14_c4]) rfl rfl rfl (by kernel_rfl) hS 0 rfl rfl rfl) 0 rfl rfl rfl rfl ?_
  intro w20 hS
  refine seq_end ?_
  refine hK13 _ _ ?_
  refine wp_seq_k (fun K21 hK21 => ?_)
  refine wp_seq_k (fun K22 hK22 => ?_)
  refine wp_region_lit ?_
  refine seq_do (v := .pointer (some ⟨g18, 0, none⟩)) hA rfl rfl rfl (does_field fld_26_0 rfl rfl) ?_
  intro a hA
  refine seq_do (v := .pointer (some ⟨g18, 1, none⟩)) hA rfl rfl rfl (does_field fld_24_1 rfl rfl) ?_
  intro a hA
  refine seq_do hA rfl rfl rfl (does_load1 hS is1_22 rfl 0 rfl rfl) ?_
  intro a hA
  refine seq_do (v := .int .i64 ((((words (turnN b x)).length : Nat) : Int))) hA rfl rfl rfl (does_len Try.underlying22 rfl) ?_
  intro a hA
  rcases Bool.eq_false_or_eq_true (decide (512 < (((words (turnN b x)).length : Nat) : Int))) with hb23 | hb23
  · have hb23' := of_decide_eq_true hb23
    refine seq_do (v := .bool true) hA rfl rfl rfl (does_bin rfl rfl (fun w => (bin_gtr w).trans (by rw [hb23]))) ?_
    intro a hA
    refine seq_end ?_
    refine hK22 _ _ ?_
    refine wp_cond_true (hA.ev rfl) ?_
    refine wp_seq_k (fun K24 hK24 => ?_)
    refine wp_region_lit ?_
    refine seq_do (v := .agg #[.bool false, .slice none 0 0, .slice none 0 0, .bool false, .slice none 0 0, .slice none 0 0]) hA rfl rfl rfl (does_build rfl (fun w => by kernel_rfl)) ?_
    intro a hA
    refine seq_store (us := [.bool false, .slice none 0 0, .slice none 0 0, .bool false, .slice none 0 0, .slice none 0 0]) hA hS rfl rfl (sets_store (cs := [.bool false, .slice none 0 0, .slice none 0 0, .bool false, .slice none 0 0, .slice none 0 0]) rfl rfl rfl (by kernel_rfl) hS 2 rfl rfl rfl) 2 rfl rfl rfl rfl ?_
    intro w25 hS
    refine seq_do hA rfl rfl rfl (does_assign rfl) ?_
    intro a hA
    refine seq_end ?_
    refine hK24 _ _ ?_
    refine wp_ret ?_
    refine hret _ _ ?_
    refine ends (v := .tuple #[.agg #[.bool false, .slice none 0 0, .slice none 0 0, .bool false, .slice none 0 0, .slice none 0 0], .int .i64 4]) hA rfl (.cons (res_cell hS isS_26 rfl 2 rfl (cs := [.bool false, .slice none 0 0, .slice none 0 0, .bool false, .slice none 0 0, .slice none 0 0]) rfl rfl) (.cons (res_tmp rfl) .nil)) rfl ?_
    rw [notQ_whole hw, bigS_neg (by omega)]
    exact ⟨none, 0, none, 0, none, 0, none, 0, rfl, ⟨(Sc.none _), (Sc.none _), (Sc.none _), (Sc.none _)⟩, hS.bel⟩
  · have hb23' := of_decide_eq_false hb23
    refine seq_do (v := .bool false) hA rfl rfl rfl (does_bin rfl rfl (fun w => (bin_gtr w).trans (by rw [hb23]))) ?_
    intro a hA
    refine seq_end ?_
    refine hK22 _ _ ?_
    refine wp_cond_false (hA.ev rfl) ?_
    refine wp_skip ?_
    refine hK21 _ _ ?_
    refine wp_seq_k (fun K26 hK26 => ?_)
    refine wp_region_lit ?_
    refine seq_do (v := .agg #[.bool (!b), .slice p14_1 ((words (turnN b x)).length) p14_c1, .slice p14_2 1 p14_c2, .bool false, .slice p14_3 0 p14_c3, .slice p14_4 1 p14_c4]) hA rfl rfl rfl (does_loadS hS isS_26 rfl 0 rfl (cs := [.bool (!b), .slice p14_1 ((words (turnN b x)).length) p14_c1, .slice p14_2 1 p14_c2, .bool false, .slice p14_3 0 p14_c3, .slice p14_4 1 p14_c4]) rfl rfl) ?_
    intro a hA
    refine seq_store (us := [.bool (!b), .slice p14_1 ((words (turnN b x)).length) p14_c1, .slice p14_2 1 p14_c2, .bool false, .slice p14_3 0 p14_c3, .slice p14_4 1 p14_c4]) hA hS rfl rfl (sets_store (cs := [.bool (!b), .slice p14_1 ((words (turnN b x)).length) p14_c1, .slice p14_2 1 p14_c2, .bool false, .slice p14_3 0 p14_c3, .slice p14_4 1 p14_c4]) rfl rfl rfl (by kernel_rfl) hS 2 rfl rfl rfl) 2 rfl rfl rfl rfl ?_
    intro w27 hS
    refine seq_do hA rfl rfl rfl (does_assign rfl) ?_
    intro a hA
    refine seq_end ?_
    refine hK26 _ _ ?_
    refine wp_ret ?_
    refine hret _ _ ?_
    refine ends (v := .tuple #[.agg #[.bool (!b), .slice p14_1 ((words (turnN b x)).length) p14_c1, .slice p14_2 1 p14_c2, .bool false, .slice p14_3 0 p14_c3, .slice p14_4 1 p14_c4], .int .i64 0]) hA rfl (.cons (res_cell hS isS_26 rfl 2 rfl (cs := [.bool (!b), .slice p14_1 ((words (turnN b x)).length) p14_c1, .slice p14_2 1 p14_c2, .bool false, .slice p14_3 0 p14_c3, .slice p14_4 1 p14_c4]) rfl rfl) (.cons (res_tmp rfl) .nil)) rfl ?_
    rw [notQ_whole hw, bigS_pos (by omega)]
    exact ⟨p14_1, p14_c1, p14_2, p14_c2, p14_3, p14_c3, p14_4, p14_c4, rfl, ⟨⟨(hS.rd 3 rfl), hn15.s1.nil, hn15.s1.cap⟩, ⟨(hS.rd 2 rfl), hn15.s2.nil, hn15.s2.cap⟩, ⟨(hS.rd 1 rfl), hn15.s3.nil, hn15.s3.cap⟩, ⟨(hS.rd 0 rfl), hn15.s4.nil, hn15.s4.cap⟩⟩, hS.bel⟩
end Go.Proofs.Yteghiinbafbokaa
namespace Go.Proofs.Yteghiinbafbokaa
open Go.RowKit
set_option linter.unusedVariables false
set_option linter.unusedSimpArgs false
set_option maxRecDepth 100000

theorem lenQ_big (b : Bool) (z : Nat) : LenQ (bigS b z).1 := by
  unfold bigS
  split
  · exact lenQ_whole (by assumption)
  · exact ⟨by decide, by decide, by decide, by decide⟩
theorem lenQ_zero : LenQ Q6.zero := ⟨by decide, by decide, by decide, by decide⟩
theorem lenQ_shift (q : Q6) (n : Int) : LenQ (shiftQ q n).1 := by
  unfold shiftQ
  split
  · split
    · exact lenQ_zero
    · split <;> exact lenQ_big _ _
  · exact lenQ_zero
theorem shiftP_any {w : World} {q : Q6} {a1 a2 a3 a4 : Option Addr} {ac1 ac2 ac3 ac4 : Nat} (ha : Nm w q a1 ac1 a2 ac2 a3 ac3 a4 ac4) (hl : LenQ q) {n : Int} : Calls Try.prog 14 #[numV q a1 ac1 a2 ac2 a3 ac3 a4 ac4, .int .i64 n] w (AnsN w (shiftQ q n)) := by
  rcases want1_cases q with ⟨hw, h1⟩ | ⟨hw, _⟩
  · obtain ⟨b, x, rfl, hx, hb⟩ := wholeOf ha h1
    exact shiftW_any ha hl hw hx hb
  · exact shiftE_any ha hl hw
theorem shiftR_any {w : World} {q : Q6} {a1 a2 a3 a4 : Option Addr} {ac1 ac2 ac3 ac4 : Nat} (ha : Nm w q a1 ac1 a2 ac2 a3 ac3 a4 ac4) (hl : LenQ q) {n : Int} : Calls Try.prog 15 #[numV q a1 ac1 a2 ac2 a3 ac3 a4 ac4, .int .i64 n] w (AnsN w (shiftQ q n)) := by
  rcases want1_cases q with ⟨hw, h1⟩ | ⟨hw, _⟩
  · obtain ⟨b, x, rfl, hx, hb⟩ := wholeOf ha h1
    exact rshiftW_any ha hl hw hx hb
  · exact rshiftE_any ha hl hw
theorem lengthP_any {w : World} {q : Q6} {a1 a2 a3 a4 : Option Addr} {ac1 ac2 ac3 ac4 : Nat} (ha : Nm w q a1 ac1 a2 ac2 a3 ac3 a4 ac4) (hl : LenQ q)  : Calls Try.prog 18 #[numV q a1 ac1 a2 ac2 a3 ac3 a4 ac4] w (AnsII w (lengthQ q)) := by
  rcases want1_cases q with ⟨hw, h1⟩ | ⟨hw, _⟩
  · obtain ⟨b, x, rfl, hx, hb⟩ := wholeOf ha h1
    exact lengthPW_any ha hl hw hx hb
  · exact lengthPE_any ha hl hw
theorem countP_any {w : World} {q : Q6} {a1 a2 a3 a4 : Option Addr} {ac1 ac2 ac3 ac4 : Nat} (ha : Nm w q a1 ac1 a2 ac2 a3 ac3 a4 ac4) (hl : LenQ q)  : Calls Try.prog 16 #[numV q a1 ac1 a2 ac2 a3 ac3 a4 ac4] w (AnsII w (countQ q)) := by
  rcases want1_cases q with ⟨hw, h1⟩ | ⟨hw, _⟩
  · obtain ⟨b, x, rfl, hx, hb⟩ := wholeOf ha h1
    exact countPW_any ha hl hw hx hb
  · exact countPE_any ha hl hw
theorem lengthR_any {w : World} {q : Q6} {a1 a2 a3 a4 : Option Addr} {ac1 ac2 ac3 ac4 : Nat} (ha : Nm w q a1 ac1 a2 ac2 a3 ac3 a4 ac4) (hl : LenQ q)  : Calls Try.prog 19 #[numV q a1 ac1 a2 ac2 a3 ac3 a4 ac4] w (AnsII w (lengthQ q)) := by
  rcases want1_cases q with ⟨hw, h1⟩ | ⟨hw, _⟩
  · obtain ⟨b, x, rfl, hx, hb⟩ := wholeOf ha h1
    exact lengthRW_any ha hl hw hx hb
  · exact lengthRE_any ha hl hw
theorem countR_any {w : World} {q : Q6} {a1 a2 a3 a4 : Option Addr} {ac1 ac2 ac3 ac4 : Nat} (ha : Nm w q a1 ac1 a2 ac2 a3 ac3 a4 ac4) (hl : LenQ q)  : Calls Try.prog 17 #[numV q a1 ac1 a2 ac2 a3 ac3 a4 ac4] w (AnsII w (countQ q)) := by
  rcases want1_cases q with ⟨hw, h1⟩ | ⟨hw, _⟩
  · obtain ⟨b, x, rfl, hx, hb⟩ := wholeOf ha h1
    exact countRW_any ha hl hw hx hb
  · exact countRE_any ha hl hw
theorem bitsShifts_any {w : World} {q : Q6} {a1 a2 a3 a4 : Option Addr} {ac1 ac2 ac3 ac4 : Nat} (ha : Nm w q a1 ac1 a2 ac2 a3 ac3 a4 ac4) (hl : LenQ q) {n : Int} (n0 : -9223372036854775808 ≤ n) (n1 : n ≤ 9223372036854775807) : Calls Try.prog 4 #[numV q a1 ac1 a2 ac2 a3 ac3 a4 ac4, .int .i64 n] w fun e w' => e = .returned (.bool true) ∧ Below w.heap.size w w' := by
  have hS : St w w [] [(a4, q.q2), (a3, q.t2), (a2, q.q1), (a1, q.t1)] [] := ((((St.start w).addR ha.s1.rd).addR ha.s2.rd).addR ha.s3.rd).addR ha.s4.rd
  refine walk_of (l := [(0, .agg #[.bool q.b1, .slice a1 q.t1.length ac1, .slice a2 q.q1.length ac2, .bool q.b2, .slice a3 q.t2.length ac3, .slice a4 q.q2.length ac4]), (1, .int .i64 n)]) Try.func4 rfl Try.ntmps4 rfl rfl ?_
  intro Q hret hnorm hP a hA
  refine wp_seq_k (fun K1 hK1 => ?_)
  refine wp_region_lit ?_
  refine seq_new (vs := [.bool q.b1, .slice a1 q.t1.length ac1, .slice a2 q.q1.length ac2, .bool q.b2, .slice a3 q.t2.length ac3, .slice a4 q.q2.length ac4]) (t := 26) hA hS rfl rfl rfl (fun g => .pointer (some ⟨g, 0, none⟩)) (does_box rfl rfl) rfl ?_
  intro g2 w3 hS a hA
  refine seq_do hA rfl rfl rfl (does_assign rfl) ?_
  intro a hA
  refine seq_end ?_
  refine hK1 _ _ ?_
  refine wp_seq_k (fun K4 hK4 => ?_)
  refine wp_region_lit ?_
  refine seq_do (v := .agg #[.bool q.b1, .slice a1 q.t1.length ac1, .slice a2 q.q1.length ac2, .bool q.b2, .slice a3 q.t2.length ac3, .slice a4 q.q2.length ac4]) hA rfl rfl rfl (does_loadS hS isS_26 rfl 0 rfl (cs := [.bool q.b1, .slice a1 q.t1.length ac1, .slice a2 q.q1.length ac2, .bool q.b2, .slice a3 q.t2.length ac3, .slice a4 q.q2.length ac4]) rfl rfl) ?_
  intro a hA
  refine seq_do hA rfl rfl rfl (does_move rfl) ?_
  intro a hA
  refine seq_call hA rfl rfl rfl (enters_func  rfl rfl (fun w => by kernel_rfl)) (shiftP_any (show Nm _ q a1 ac1 a2 ac2 a3 ac3 a4 ac4 from ⟨⟨(hS.rd 3 rfl), ha.s1.nil, ha.s1.cap⟩, ⟨(hS.rd 2 rfl), ha.s2.nil, ha.s2.cap⟩, ⟨(hS.rd 1 rfl), ha.s3.nil, ha.s3.cap⟩, ⟨(hS.rd 0 rfl), ha.s4.nil, ha.s4.cap⟩⟩) hl) ?_
  rintro _ w8 ⟨p5_1, p5_c1, p5_2, p5_c2, p5_3, p5_c3, p5_4, p5_c4, rfl, hn6, hb7⟩
  replace hS := hS.call hb7
  replace hS := hS.addR hn6.s1.rd
  replace hS := hS.addR hn6.s2.rd
  replace hS := hS.addR hn6.s3.rd
  replace hS := hS.addR hn6.s4.rd
  refine ⟨_, rfl, ?_⟩
  intro a hA
  refine seq_do hA rfl rfl rfl (does_move rfl) ?_
  intro a hA
  refine seq_do (v := .agg #[.bool ((shiftQ q n).1.b1), .slice p5_1 (((shiftQ q n).1.t1).length) p5_c1, .slice p5_2 (((shiftQ q n).1.q1).length) p5_c2, .bool ((shiftQ q n).1.b2), .slice p5_3 (((shiftQ q n).1.t2).length) p5_c3, .slice p5_4 (((shiftQ q n).1.q2).length) p5_c4]) hA rfl rfl rfl (does_extract (vs := [.agg #[.bool ((shiftQ q n).1.b1), .slice p5_1 (((shiftQ q n).1.t1).length) p5_c1, .slice p5_2 (((shiftQ q n).1.q1).length) p5_c2, .bool ((shiftQ q n).1.b2), .slice p5_3 (((shiftQ q n).1.t2).length) p5_c3, .slice p5_4 (((shiftQ q n).1.q2).length) p5_c4], .int .i64 ((shiftQ q n).2)]) rfl rfl) ?_
  intro a hA
  refine seq_do (v := .int .i64 ((shiftQ q n).2)) hA rfl rfl rfl (does_extract (vs := [.agg #[.bool ((shiftQ q n).1.b1), .slice p5_1 (((shiftQ q n).1.t1).length) p5_c1, .slice p5_2 (((shiftQ q n).1.q1).length) p5_c2, .bool ((shiftQ q n).1.b2), .slice p5_3 (((shiftQ q n).1.t2).length) p5_c3, .slice p5_4 (((shiftQ q n).1.q2).length) p5_c4], .int .i64 ((shiftQ q n).2)]) rfl rfl) ?_
  intro a hA
  refine seq_new (vs := [.bool false, .slice none 0 0, .slice none 0 0, .bool false, .slice none 0 0, .slice none 0 0]) (t := 26) hA hS rfl rfl rfl (fun g => .pointer (some ⟨g, 0, none⟩)) (does_alloc (z := .agg #[.bool false, .slice none 0 0, .slice none 0 0, .bool false, .slice none 0 0, .slice none 0 0]) (by kernel_rfl) rfl) rfl ?_
  intro g9 w10 hS a hA
  refine seq_store (us := [.bool ((shiftQ q n).1.b1), .slice p5_1 (((shiftQ q n).1.t1).length) p5_c1, .slice p5_2 (((shiftQ q n).1.q1).length) p5_c2, .bool ((shiftQ q n).1.b2), .slice p5_3 (((shiftQ q n).1.t2).length) p5_c3, .slice p5_4 (((shiftQ q n).1.q2).length) p5_c4]) hA hS rfl rfl (sets_store (cs := [.bool ((shiftQ q n).1.b1), .slice p5_1 (((shiftQ q n).1.t1).length) p5_c1, .slice p5_2 (((shiftQ q n).1.q1).length) p5_c2, .bool ((shiftQ q n).1.b2), .slice p5_3 (((shiftQ q n).1.t2).length) p5_c3, .slice p5_4 (((shiftQ q n).1.q2).length) p5_c4]) rfl rfl rfl (by kernel_rfl) hS 0 rfl rfl rfl) 0 rfl rfl rfl rfl ?_
  intro w11 hS
  refine seq_do hA rfl rfl rfl (does_assign rfl) ?_
  intro a hA
  refine seq_end ?_
  refine hK4 _ _ ?_
  refine wp_seq_k (fun K12 hK12 => ?_)
  refine wp_region_lit ?_
  refine seq_do (v := .agg #[.bool q.b1, .slice a1 q.t1.length ac1, .slice a2 q.q1.length ac2, .bool q.b2, .slice a3 q.t2.length ac3, .slice a4 q.q2.length ac4]) hA rfl rfl rfl (does_loadS hS isS_26 rfl 1 rfl (cs := [.bool q.b1, .slice a1 q.t1.length ac1, .slice a2 q.q1.length ac2, .bool q.b2, .slice a3 q.t2.length ac3, .slice a4 q.q2.length ac4]) rfl rfl) ?_
  intro a hA
  refine seq_do hA rfl rfl rfl (does_move rfl) ?_
  intro a hA
  refine seq_call hA rfl rfl rfl (enters_func  rfl rfl (fun w => by kernel_rfl)) (shiftR_any (show Nm _ q a1 ac1 a2 ac2 a3 ac3 a4 ac4 from ⟨⟨(hS.rd 7 rfl), ha.s1.nil, ha.s1.cap⟩, ⟨(hS.rd 6 rfl), ha.s2.nil, ha.s2.cap⟩, ⟨(hS.rd 5 rfl), ha.s3.nil, ha.s3.cap⟩, ⟨(hS.rd 4 rfl), ha.s4.nil, ha.s4.cap⟩⟩) hl) ?_
  rintro _ w16 ⟨p13_1, p13_c1, p13_2, p13_c2, p13_3, p13_c3, p13_4, p13_c4, rfl, hn14, hb15⟩
  replace hS := hS.call hb15
  replace hS := hS.addR hn14.s1.rd
  replace hS := hS.addR hn14.s2.rd
  replace hS := hS.addR hn14.s3.rd
  replace hS := hS.addR hn14.s4.rd
  refine ⟨_, rfl, ?_⟩
  intro a hA
  refine seq_do hA rfl rfl rfl (does_move rfl) ?_
  intro a hA
  refine seq_do (v := .agg #[.bool ((shiftQ q n).1.b1), .slice p13_1 (((shiftQ q n).1.t1).length) p13_c1, .slice p13_2 (((shiftQ q n).1.q1).length) p13_c2, .bool ((shiftQ q n).1.b2), .slice p13_3 (((shiftQ q n).1.t2).length) p13_c3, .slice p13_4 (((shiftQ q n).1.q2).length) p13_c4]) hA rfl rfl rfl (does_extract (vs := [.agg #[.bool ((shiftQ q n).1.b1), .slice p13_1 (((shiftQ q n).1.t1).length) p13_c1, .slice p13_2 (((shiftQ q n).1.q1).length) p13_c2, .bool ((shiftQ q n).1.b2), .slice p13_3 (((shiftQ q n).1.t2).length) p13_c3, .slice p13_4 (((shiftQ q n).1.q2).length) p13_c4], .int .i64 ((shiftQ q n).2)]) rfl rfl) ?_
  intro a hA
  refine seq_do (v := .int .i64 ((shiftQ q n).2)) hA rfl rfl rfl (does_extract (vs := [.agg #[.bool ((shiftQ q n).1.b1), .slice p13_1 (((shiftQ q n).1.t1).length) p13_c1, .slice p13_2 (((shiftQ q n).1.q1).length) p13_c2, .bool ((shiftQ q n).1.b2), .slice p13_3 (((shiftQ q n).1.t2).length) p13_c3, .slice p13_4 (((shiftQ q n).1.q2).length) p13_c4], .int .i64 ((shiftQ q n).2)]) rfl rfl) ?_
  intro a hA
  refine seq_new (vs := [.bool false, .slice none 0 0, .slice none 0 0, .bool false, .slice none 0 0, .slice none 0 0]) (t := 26) hA hS rfl rfl rfl (fun g => .pointer (some ⟨g, 0, none⟩)) (does_alloc (z := .agg #[.bool false, .slice none 0 0, .slice none 0 0, .bool false, .slice none 0 0, .slice none 0 0]) (by kernel_rfl) rfl) rfl ?_
  intro g17 w18 hS a hA
  refine seq_store (us := [.bool ((shiftQ q n).1.b1), .slice p13_1 (((shiftQ q n).1.t1).length) p13_c1, .slice p13_2 (((shiftQ q n).1.q1).length) p13_c2, .bool ((shiftQ q n).1.b2), .slice p13_3 (((shiftQ q n).1.t2).length) p13_c3, .slice p13_4 (((shiftQ q n).1.q2).length) p13_c4]) hA hS rfl rfl (sets_store (cs := [.bool ((shiftQ q n).1.b1), .slice p13_1 (((shiftQ q n).1.t1).length) p13_c1, .slice p13_2 (((shiftQ q n).1.q1).length) p13_c2, .bool ((shiftQ q n).1.b2), .slice p13_3 (((shiftQ q n).1.t2).length) p13_c3, .slice p13_4 (((shiftQ q n).1.q2).length) p13_c4]) rfl rfl rfl (by kernel_rfl) hS 0 rfl rfl rfl) 0 rfl rfl rfl rfl ?_
  intro w19 hS
  refine seq_do hA rfl rfl rfl (does_assign rfl) ?_
  intro a hA
  refine seq_end ?_
  refine hK12 _ _ ?_
  refine wp_seq_k (fun K20 hK20 => ?_)
  refine wp_region_lit ?_
  refine seq_do (v := .agg #[.bool q.b1, .slice a1 q.t1.length ac1, .slice a2 q.q1.length ac2, .bool q.b2, .slice a3 q.t2.length ac3, .slice a4 q.q2.length ac4]) hA rfl rfl rfl (does_loadS hS isS_26 rfl 2 rfl (cs := [.bool q.b1, .slice a1 q.t1.length ac1, .slice a2 q.q1.length ac2, .bool q.b2, .slice a3 q.t2.length ac3, .slice a4 q.q2.length ac4]) rfl rfl) ?_
  intro a hA
  refine seq_call hA rfl rfl rfl (enters_func  rfl rfl (fun w => by kernel_rfl)) (countP_any (show Nm _ q a1 ac1 a2 ac2 a3 ac3 a4 ac4 from ⟨⟨(hS.rd 11 rfl), ha.s1.nil, ha.s1.cap⟩, ⟨(hS.rd 10 rfl), ha.s2.nil, ha.s2.cap⟩, ⟨(hS.rd 9 rfl), ha.s3.nil, ha.s3.cap⟩, ⟨(hS.rd 8 rfl), ha.s4.nil, ha.s4.cap⟩⟩) hl) ?_
  rintro _ w22 ⟨rfl, hb21⟩
  replace hS := hS.call hb21
  refine ⟨_, rfl, ?_⟩
  intro a hA
  refine seq_do hA rfl rfl rfl (does_move rfl) ?_
  intro a hA
  refine seq_do (v := .int .i64 ((countQ q).1)) hA rfl rfl rfl (does_extract (vs := [.int .i64 ((countQ q).1), .int .i64 ((countQ q).2)]) rfl rfl) ?_
  intro a hA
  refine seq_do (v := .int .i64 ((countQ q).2)) hA rfl rfl rfl (does_extract (vs := [.int .i64 ((countQ q).1), .int .i64 ((countQ q).2)]) rfl rfl) ?_
  intro a hA
  refine seq_do hA rfl rfl rfl (does_assign rfl) ?_
  intro a hA
  refine seq_do hA rfl rfl rfl (does_assign rfl) ?_
  intro a hA
  refine seq_end ?_
  refine hK20 _ _ ?_
  refine wp_seq_k (fun K23 hK23 => ?_)
  refine wp_region_lit ?_
  refine seq_do (v := .agg #[.bool q.b1, .slice a1 q.t1.length ac1, .slice a2 q.q1.length ac2, .bool q.b2, .slice a3 q.t2.length ac3, .slice a4 q.q2.length ac4]) hA rfl rfl rfl (does_loadS hS isS_26 rfl 2 rfl (cs := [.bool q.b1, .slice a1 q.t1.length ac1, .slice a2 q.q1.length ac2, .bool q.b2, .slice a3 q.t2.length ac3, .slice a4 q.q2.length ac4]) rfl rfl) ?_
  intro a hA
  refine seq_call hA rfl rfl rfl (enters_func  rfl rfl (fun w => by kernel_rfl)) (countR_any (show Nm _ q a1 ac1 a2 ac2 a3 ac3 a4 ac4 from ⟨⟨(hS.rd 11 rfl), ha.s1.nil, ha.s1.cap⟩, ⟨(hS.rd 10 rfl), ha.s2.nil, ha.s2.cap⟩, ⟨(hS.rd 9 rfl), ha.s3.nil, ha.s3.cap⟩, ⟨(hS.rd 8 rfl), ha.s4.nil, ha.s4.cap⟩⟩) hl) ?_
  rintro _ w25 ⟨rfl, hb24⟩
  replace hS := hS.call hb24
  refine ⟨_, rfl, ?_⟩
  intro a hA
  refine seq_do hA rfl rfl rfl (does_move rfl) ?_
  intro a hA
  refine seq_do (v := .int .i64 ((countQ q).1)) hA rfl rfl rfl (does_extract (vs := [.int .i64 ((countQ q).1), .int .i64 ((countQ q).2)]) rfl rfl) ?_
  intro a hA
  refine seq_do (v := .int .i64 ((countQ q).2)) hA rfl rfl rfl (does_extract (vs := [.int .i64 ((countQ q).1), .int .i64 ((countQ q).2)]) rfl rfl) ?_
  intro a hA
  refine seq_do hA rfl rfl rfl (does_assign rfl) ?_
  intro a hA
  refine seq_do hA rfl rfl rfl (does_assign rfl) ?_
  intro a hA
  refine seq_end ?_
  refine hK23 _ _ ?_
  refine wp_seq_k (fun K26 hK26 => ?_)
  refine wp_region_lit ?_
  refine seq_do (v := .agg #[.bool q.b1, .slice a1 q.t1.length ac1, .slice a2 q.q1.length ac2, .bool q.b2, .slice a3 q.t2.length ac3, .slice a4 q.q2.length ac4]) hA rfl rfl rfl (does_loadS hS isS_26 rfl 2 rfl (cs := [.bool q.b1, .slice a1 q.t1.length ac1, .slice a2 q.q1.length ac2, .bool q.b2, .slice a3 q.t2.length ac3, .slice a4 q.q2.length ac4]) rfl rfl) ?_
  intro a hA
  refine seq_call hA rfl rfl rfl (enters_func  rfl rfl (fun w => by kernel_rfl)) (lengthP_any (show Nm _ q a1 ac1 a2 ac2 a3 ac3 a4 ac4 from ⟨⟨(hS.rd 11 rfl), ha.s1.nil, ha.s1.cap⟩, ⟨(hS.rd 10 rfl), ha.s2.nil, ha.s2.cap⟩, ⟨(hS.rd 9 rfl), ha.s3.nil, ha.s3.cap⟩, ⟨(hS.rd 8 rfl), ha.s4.nil, ha.s4.cap⟩⟩) hl) ?_
  rintro _ w28 ⟨rfl, hb27⟩
  replace hS := hS.call hb27
  refine ⟨_, rfl, ?_⟩
  intro a hA
  refine seq_do hA rfl rfl rfl (does_move rfl) ?_
  intro a hA
  refine seq_do (v := .int .i64 ((lengthQ q).1)) hA rfl rfl rfl (does_extract (vs := [.int .i64 ((lengthQ q).1), .int .i64 ((lengthQ q).2)]) rfl rfl) ?_
  intro a hA
  refine seq_do (v := .int .i64 ((lengthQ q).2)) hA rfl rfl rfl (does_extract (vs := [.int .i64 ((lengthQ q).1), .int .i64 ((lengthQ q).2)]) rfl rfl) ?_
  intro a hA
  refine seq_do hA rfl rfl rfl (does_assign rfl) ?_
  intro a hA
  refine seq_do hA rfl rfl rfl (does_assign rfl) ?_
  intro a hA
  refine seq_end ?_
  refine hK26 _ _ ?_
  refine wp_seq_k (fun K29 hK29 => ?_)
  refine wp_region_lit ?_
  refine seq_do (v := .agg #[.bool q.b1, .slice a1 q.t1.length ac1, .slice a2 q.q1.length ac2, .bool q.b2, .slice a3 q.t2.length ac3, .slice a4 q.q2.length ac4]) hA rfl rfl rfl (does_loadS hS isS_26 rfl 2 rfl (cs := [.bool q.b1, .slice a1 q.t1.length ac1, .slice a2 q.q1.length ac2, .bool q.b2, .slice a3 q.t2.length ac3, .slice a4 q.q2.length ac4]) rfl rfl) ?_
  intro a hA
  refine seq_call hA rfl rfl rfl (enters_func  rfl rfl (fun w => by kernel_rfl)) (lengthR_any (show Nm _ q a1 ac1 a2 ac2 a3 ac3 a4 ac4 from ⟨⟨(hS.rd 11 rfl), ha.s1.nil, ha.s1.cap⟩, ⟨(hS.rd 10 rfl), ha.s2.nil, ha.s2.cap⟩, ⟨(hS.rd 9 rfl), ha.s3.nil, ha.s3.cap⟩, ⟨(hS.rd 8 rfl), ha.s4.nil, ha.s4.cap⟩⟩) hl) ?_
  rintro _ w31 ⟨rfl, hb30⟩
  replace hS := hS.call hb30
  refine ⟨_, rfl, ?_⟩
  intro a hA
  refine seq_do hA rfl rfl rfl (does_move rfl) ?_
  intro a hA
  refine seq_do (v := .int .i64 ((lengthQ q).1)) hA rfl rfl rfl (does_extract (vs := [.int .i64 ((lengthQ q).1), .int .i64 ((lengthQ q).2)]) rfl rfl) ?_
  intro a hA
  refine seq_do (v := .int .i64 ((lengthQ q).2)) hA rfl rfl rfl (does_extract (vs := [.int .i64 ((lengthQ q).1), .int .i64 ((lengthQ q).2)]) rfl rfl) ?_
  intro a hA
  refine seq_do hA rfl rfl rfl (does_assign rfl) ?_
  intro a hA
  refine seq_do hA rfl rfl rfl (does_assign rfl) ?_
  intro a hA
  refine seq_end ?_
  refine hK29 _ _ ?_
  refine wp_seq_k (fun K32 hK32 => ?_)
  refine wp_region_lit ?_
  refine seq_call hA rfl rfl rfl (enters_func  rfl rfl (fun w => by kernel_rfl)) (awake4_any) ?_
  rintro _ w34 ⟨rfl, hb33⟩
  replace hS := hS.call hb33
  refine ⟨_, rfl, ?_⟩
  intro a hA
  refine seq_do hA rfl rfl rfl (does_move rfl) ?_
  intro a hA
  refine seq_do (v := .agg #[.bool ((shiftQ q n).1.b1), .slice p5_1 (((shiftQ q n).1.t1).length) p5_c1, .slice p5_2 (((shiftQ q n).1.q1).length) p5_c2, .bool ((shiftQ q n).1.b2), .slice p5_3 (((shiftQ q n).1.t2).length) p5_c3, .slice p5_4 (((shiftQ q n).1.q2).length) p5_c4]) hA rfl rfl rfl (does_loadS hS isS_26 rfl 1 rfl (cs := [.bool ((shiftQ q n).1.b1), .slice p5_1 (((shiftQ q n).1.t1).length) p5_c1, .slice p5_2 (((shiftQ q n).1.q1).length) p5_c2, .bool ((shiftQ q n).1.b2), .slice p5_3 (((shiftQ q n).1.t2).length) p5_c3, .slice p5_4 (((shiftQ q n).1.q2).length) p5_c4]) rfl rfl) ?_
  intro a hA
  refine seq_do (v := .agg #[.bool ((shiftQ q n).1.b1), .slice p13_1 (((shiftQ q n).1.t1).length) p13_c1, .slice p13_2 (((shiftQ q n).1.q1).length) p13_c2, .bool ((shiftQ q n).1.b2), .slice p13_3 (((shiftQ q n).1.t2).length) p13_c3, .slice p13_4 (((shiftQ q n).1.q2).length) p13_c4]) hA rfl rfl rfl (does_loadS hS isS_26 rfl 0 rfl (cs := [.bool ((shiftQ q n).1.b1), .slice p13_1 (((shiftQ q n).1.t1).length) p13_c1, .slice p13_2 (((shiftQ q n).1.q1).length) p13_c2, .bool ((shiftQ q n).1.b2), .slice p13_3 (((shiftQ q n).1.t2).length) p13_c3, .slice p13_4 (((shiftQ q n).1.q2).length) p13_c4]) rfl rfl) ?_
  intro a hA
  refine seq_call hA rfl rfl rfl (enters_func  rfl rfl (fun w => by kernel_rfl)) (alike_any (show Nm _ _ p5_1 p5_c1 p5_2 p5_c2 p5_3 p5_c3 p5_4 p5_c4 from ⟨⟨(hS.rd 7 rfl), hn6.s1.nil, hn6.s1.cap⟩, ⟨(hS.rd 6 rfl), hn6.s2.nil, hn6.s2.cap⟩, ⟨(hS.rd 5 rfl), hn6.s3.nil, hn6.s3.cap⟩, ⟨(hS.rd 4 rfl), hn6.s4.nil, hn6.s4.cap⟩⟩) (lenQ_shift q n) (show Nm _ _ p13_1 p13_c1 p13_2 p13_c2 p13_3 p13_c3 p13_4 p13_c4 from ⟨⟨(hS.rd 3 rfl), hn14.s1.nil, hn14.s1.cap⟩, ⟨(hS.rd 2 rfl), hn14.s2.nil, hn14.s2.cap⟩, ⟨(hS.rd 1 rfl), hn14.s3.nil, hn14.s3.cap⟩, ⟨(hS.rd 0 rfl), hn14.s4.nil, hn14.s4.cap⟩⟩)) ?_
  rintro _ w36 ⟨rfl, hb35⟩
  replace hS := hS.call hb35
  refine ⟨_, rfl, ?_⟩
  intro a hA
  refine seq_do (v := .bool true) hA rfl rfl rfl (does_pick rfl rfl rfl rfl) ?_
  intro a hA
  refine seq_do hA rfl rfl rfl (does_move rfl) ?_
  intro a hA
  refine seq_do hA rfl rfl rfl (does_move rfl) ?_
  intro a hA
  refine seq_do hA rfl rfl rfl (does_move rfl) ?_
  intro a hA
  refine seq_do (v := .bool true) hA rfl rfl rfl (does_bin rfl rfl (fun w => (bin_eql w).trans (by rw [show (((shiftQ q n).2 == (shiftQ q n).2)) = true from beq_self_eq_true _]))) ?_
  intro a hA
  refine seq_do (v := .bool true) hA rfl rfl rfl (does_pick rfl rfl rfl rfl) ?_
  intro a hA
  refine seq_do hA rfl rfl rfl (does_move rfl) ?_
  intro a hA
  refine seq_do hA rfl rfl rfl (does_move rfl) ?_
  intro a hA
  refine seq_do hA rfl rfl rfl (does_move rfl) ?_
  intro a hA
  refine seq_do (v := .bool true) hA rfl rfl rfl (does_bin rfl rfl (fun w => (bin_eql w).trans (by rw [show (((countQ q).1 == (countQ q).1)) = true from beq_self_eq_true _]))) ?_
  intro a hA
  refine seq_do (v := .bool true) hA rfl rfl rfl (does_pick rfl rfl rfl rfl) ?_
  intro a hA
  refine seq_do hA rfl rfl rfl (does_move rfl) ?_
  intro a hA
  refine seq_do hA rfl rfl rfl (does_move rfl) ?_
  intro a hA
  refine seq_do hA rfl rfl rfl (does_move rfl) ?_
  intro a hA
  refine seq_do (v := .bool true) hA rfl rfl rfl (does_bin rfl rfl (fun w => (bin_eql w).trans (by rw [show (((countQ q).2 == (countQ q).2)) = true from beq_self_eq_true _]))) ?_
  intro a hA
  refine seq_do (v := .bool true) hA rfl rfl rfl (does_pick rfl rfl rfl rfl) ?_
  intro a hA
  refine seq_do hA rfl rfl rfl (does_move rfl) ?_
  intro a hA
  refine seq_do hA rfl rfl rfl (does_move rfl) ?_
  intro a hA
  refine seq_do hA rfl rfl rfl (does_move rfl) ?_
  intro a hA
  refine seq_do (v := .bool true) hA rfl rfl rfl (does_bin rfl rfl (fun w => (bin_eql w).trans (by rw [show (((lengthQ q).1 == (lengthQ q).1)) = true from beq_self_eq_true _]))) ?_
  intro a hA
  refine seq_do (v := .bool true) hA rfl rfl rfl (does_pick rfl rfl rfl rfl) ?_
  intro a hA
  refine seq_do hA rfl rfl rfl (does_move rfl) ?_
  intro a hA
  refine seq_do hA rfl rfl rfl (does_move rfl) ?_
  intro a hA
  refine seq_do hA rfl rfl rfl (does_move rfl) ?_
  intro a hA
  refine seq_do (v := .bool true) hA rfl rfl rfl (does_bin rfl rfl (fun w => (bin_eql w).trans (by rw [show (((lengthQ q).2 == (lengthQ q).2)) = true from beq_self_eq_true _]))) ?_
  intro a hA
  refine seq_do (v := .bool true) hA rfl rfl rfl (does_pick rfl rfl rfl rfl) ?_
  intro a hA
  refine seq_do hA rfl rfl rfl (does_assign rfl) ?_
  intro a hA
  refine seq_end ?_
  refine hK32 _ _ ?_
  refine wp_ret ?_
  refine hret _ _ ?_
  refine ends (v := .bool true) hA rfl (.cons (res_tmp rfl) .nil) rfl ?_
  exact ⟨rfl, hS.bel⟩
end Go.Proofs.Yteghiinbafbokaa
namespace Go.Proofs.Yteghiinbafbokaa
open Go.RowKit
set_option linter.unusedVariables false
set_option linter.unusedSimpArgs false
set_option maxRecDepth 100000

theorem lenQ_bit (fop : Nat → Nat → Nat) (fb : Bool → Bool → Bool) (p q : Q6) : LenQ (bitQ fop fb p q).1 := by
  unfold bitQ
  split
  · exact lenQ_big _ _
  · exact lenQ_zero
theorem lenQ_not (q : Q6) : LenQ (notQ q).1 := by
  unfold notQ
  split
  · exact lenQ_big _ _
  · exact lenQ_zero
theorem randQ_any {w : World} {p q : Q6} {a1 a2 a3 a4 : Option Addr} {ac1 ac2 ac3 ac4 : Nat} (ha : Nm w p a1 ac1 a2 ac2 a3 ac3 a4 ac4) (hl : LenQ p) {u1 u2 u3 u4 : Option Addr} {uc1 uc2 uc3 uc4 : Nat} (hu : Nm w q u1 uc1 u2 uc2 u3 uc3 u4 uc4) (hm : LenQ q) : Calls Try.prog 7 #[.int .i64 1, numV p a1 ac1 a2 ac2 a3 ac3 a4 ac4, numV q u1 uc1 u2 uc2 u3 uc3 u4 uc4] w (AnsN w (bitQ (fun x y => x &&& y) (fun b c => b && c) p q)) := by
  rcases want2_cases p q with ⟨hw, h1, h2⟩ | hw
  · obtain ⟨b1, x1, rfl, hx1, hb1⟩ := wholeOf ha h1
    obtain ⟨b2, x2, rfl, hx2, hb2⟩ := wholeOf hu h2
    exact randW_any ha hl hu hm hw hx1 hb1 hx2 hb2
  · exact randE_any ha hl hu hm hw
theorem rorQ_any {w : World} {p q : Q6} {a1 a2 a3 a4 : Option Addr} {ac1 ac2 ac3 ac4 : Nat} (ha : Nm w p a1 ac1 a2 ac2 a3 ac3 a4 ac4) (hl : LenQ p) {u1 u2 u3 u4 : Option Addr} {uc1 uc2 uc3 uc4 : Nat} (hu : Nm w q u1 uc1 u2 uc2 u3 uc3 u4 uc4) (hm : LenQ q) : Calls Try.prog 7 #[.int .i64 2, numV p a1 ac1 a2 ac2 a3 ac3 a4 ac4, numV q u1 uc1 u2 uc2 u3 uc3 u4 uc4] w (AnsN w (bitQ (fun x y => x ||| y) (fun b c => b || c) p q)) := by
  rcases want2_cases p q with ⟨hw, h1, h2⟩ | hw
  · obtain ⟨b1, x1, rfl, hx1, hb1⟩ := wholeOf ha h1
    obtain ⟨b2, x2, rfl, hx2, hb2⟩ := wholeOf hu h2
    exact rorW_any ha hl hu hm hw hx1 hb1 hx2 hb2
  · exact rorE_any ha hl hu hm hw
theorem rxorQ_any {w : World} {p q : Q6} {a1 a2 a3 a4 : Option Addr} {ac1 ac2 ac3 ac4 : Nat} (ha : Nm w p a1 ac1 a2 ac2 a3 ac3 a4 ac4) (hl : LenQ p) {u1 u2 u3 u4 : Option Addr} {uc1 uc2 uc3 uc4 : Nat} (hu : Nm w q u1 uc1 u2 uc2 u3 uc3 u4 uc4) (hm : LenQ q) : Calls Try.prog 7 #[.int .i64 3, numV p a1 ac1 a2 ac2 a3 ac3 a4 ac4, numV q u1 uc1 u2 uc2 u3 uc3 u4 uc4] w (AnsN w (bitQ (fun x y => x ^^^ y) (fun b c => b != c) p q)) := by
  rcases want2_cases p q with ⟨hw, h1, h2⟩ | hw
  · obtain ⟨b1, x1, rfl, hx1, hb1⟩ := wholeOf ha h1
    obtain ⟨b2, x2, rfl, hx2, hb2⟩ := wholeOf hu h2
    exact rxorW_any ha hl hu hm hw hx1 hb1 hx2 hb2
  · exact rxorE_any ha hl hu hm hw
theorem notP_any {w : World} {q : Q6} {a1 a2 a3 a4 : Option Addr} {ac1 ac2 ac3 ac4 : Nat} (ha : Nm w q a1 ac1 a2 ac2 a3 ac3 a4 ac4) (hl : LenQ q)  : Calls Try.prog 10 #[numV q a1 ac1 a2 ac2 a3 ac3 a4 ac4] w (AnsN w (notQ q)) := by
  rcases want1_cases q with ⟨hw, h1⟩ | ⟨hw, _⟩
  · obtain ⟨b, x, rfl, hx, hb⟩ := wholeOf ha h1
    exact notW_any ha hl hw hx hb
  · exact notE_any ha hl hw
theorem notR_any {w : World} {q : Q6} {a1 a2 a3 a4 : Option Addr} {ac1 ac2 ac3 ac4 : Nat} (ha : Nm w q a1 ac1 a2 ac2 a3 ac3 a4 ac4) (hl : LenQ q)  : Calls Try.prog 11 #[numV q a1 ac1 a2 ac2 a3 ac3 a4 ac4] w (AnsN w (notQ q)) := by
  rcases want1_cases q with ⟨hw, h1⟩ | ⟨hw, _⟩
  · obtain ⟨b, x, rfl, hx, hb⟩ := wholeOf ha h1
    exact rnotW_any ha hl hw hx hb
  · exact rnotE_any ha hl hw
theorem bitsBoth_any {w : World} {p q : Q6} {a1 a2 a3 a4 : Option Addr} {ac1 ac2 ac3 ac4 : Nat} (ha : Nm w p a1 ac1 a2 ac2 a3 ac3 a4 ac4) (hl : LenQ p) {u1 u2 u3 u4 : Option Addr} {uc1 uc2 uc3 uc4 : Nat} (hu : Nm w q u1 uc1 u2 uc2 u3 uc3 u4 uc4) (hm : LenQ q) : Calls Try.prog 3 #[numV p a1 ac1 a2 ac2 a3 ac3 a4 ac4, numV q u1 uc1 u2 uc2 u3 uc3 u4 uc4] w fun e w' => e = .returned (.bool true) ∧ Below w.heap.size w w' := by
  have hS : St w w [] [(u4, q.q2), (u3, q.t2), (u2, q.q1), (u1, q.t1), (a4, p.q2), (a3, p.t2), (a2, p.q1), (a1, p.t1)] [] := ((((((((St.start w).addR ha.s1.rd).addR ha.s2.rd).addR ha.s3.rd).addR ha.s4.rd).addR hu.s1.rd).addR hu.s2.rd).addR hu.s3.rd).addR hu.s4.rd
  refine walk_of (l := [(0, .agg #[.bool p.b1, .slice a1 p.t1.length ac1, .slice a2 p.q1.length ac2, .bool p.b2, .slice a3 p.t2.length ac3, .slice a4 p.q2.length ac4]), (1, .agg #[.bool q.b1, .slice u1 q.t1.length uc1, .slice u2 q.q1.length uc2, .bool q.b2, .slice u3 q.t2.length uc3, .slice u4 q.q2.length uc4])]) Try.func3 rfl Try.ntmps3 rfl rfl ?_
  intro Q hret hnorm hP a hA
  refine wp_seq_k (fun K1 hK1 => ?_)
  refine wp_region_lit ?_
  refine seq_new (vs := [.bool p.b1, .slice a1 p.t1.length ac1, .slice a2 p.q1.length ac2, .bool p.b2, .slice a3 p.t2.length ac3, .slice a4 p.q2.length ac4]) (t := 26) hA hS rfl rfl rfl (fun g => .pointer (some ⟨g, 0, none⟩)) (does_box rfl rfl) rfl ?_
  intro g2 w3 hS a hA
  refine seq_new (vs := [.bool q.b1, .slice u1 q.t1.length uc1, .slice u2 q.q1.length uc2, .bool q.b2, .slice u3 q.t2.length uc3, .slice u4 q.q2.length uc4]) (t := 26) hA hS rfl rfl rfl (fun g => .pointer (some ⟨g, 0, none⟩)) (does_box rfl rfl) rfl ?_
  intro g4 w5 hS a hA
  refine seq_do hA rfl rfl rfl (does_assign rfl) ?_
  intro a hA
  refine seq_end ?_
  refine hK1 _ _ ?_
  refine wp_seq_k (fun K6 hK6 => ?_)
  refine wp_region_lit ?_
  refine seq_do (v := .agg #[.bool p.b1, .slice a1 p.t1.length ac1, .slice a2 p.q1.length ac2, .bool p.b2, .slice a3 p.t2.length ac3, .slice a4 p.q2.length ac4]) hA rfl rfl rfl (does_loadS hS isS_26 rfl 1 rfl (cs := [.bool p.b1, .slice a1 p.t1.length ac1, .slice a2 p.q1.length ac2, .bool p.b2, .slice a3 p.t2.length ac3, .slice a4 p.q2.length ac4]) rfl rfl) ?_
  intro a hA
  refine seq_do (v := .agg #[.bool q.b1, .slice u1 q.t1.length uc1, .slice u2 q.q1.length uc2, .bool q.b2, .slice u3 q.t2.length uc3, .slice u4 q.q2.length uc4]) hA rfl rfl rfl (does_loadS hS isS_26 rfl 0 rfl (cs := [.bool q.b1, .slice u1 q.t1.length uc1, .slice u2 q.q1.length uc2, .bool q.b2, .slice u3 q.t2.length uc3, .slice u4 q.q2.length uc4]) rfl rfl) ?_
  intro a hA
  refine seq_call hA rfl rfl rfl (enters_func  rfl rfl (fun w => by kernel_rfl)) (andQ_any (show Nm _ p a1 ac1 a2 ac2 a3 ac3 a4 ac4 from ⟨⟨(hS.rd 7 rfl), ha.s1.nil, ha.s1.cap⟩, ⟨(hS.rd 6 rfl), ha.s2.nil, ha.s2.cap⟩, ⟨(hS.rd 5 rfl), ha.s3.nil, ha.s3.cap⟩, ⟨(hS.rd 4 rfl), ha.s4.nil, ha.s4.cap⟩⟩) hl (show Nm _ q u1 uc1 u2 uc2 u3 uc3 u4 uc4 from ⟨⟨(hS.rd 3 rfl), hu.s1.nil, hu.s1.cap⟩, ⟨(hS.rd 2 rfl), hu.s2.nil, hu.s2.cap⟩, ⟨(hS.rd 1 rfl), hu.s3.nil, hu.s3.cap⟩, ⟨(hS.rd 0 rfl), hu.s4.nil, hu.s4.cap⟩⟩) hm) ?_
  rintro _ w10 ⟨p7_1, p7_c1, p7_2, p7_c2, p7_3, p7_c3, p7_4, p7_c4, rfl, hn8, hb9⟩
  replace hS := hS.call hb9
  replace hS := hS.addR hn8.s1.rd
  replace hS := hS.addR hn8.s2.rd
  replace hS := hS.addR hn8.s3.rd
  replace hS := hS.addR hn8.s4.rd
  refine ⟨_, rfl, ?_⟩
  intro a hA
  refine seq_do hA rfl rfl rfl (does_move rfl) ?_
  intro a hA
  refine seq_do (v := .agg #[.bool ((bitQ (fun x y => x &&& y) (fun b c => b && c) p q).1.b1), .slice p7_1 (((bitQ (fun x y => x &&& y) (fun b c => b && c) p q).1.t1).length) p7_c1, .slice p7_2 (((bitQ (fun x y => x &&& y) (fun b c => b && c) p q).1.q1).length) p7_c2, .bool ((bitQ (fun x y => x &&& y) (fun b c => b && c) p q).1.b2), .slice p7_3 (((bitQ (fun x y => x &&& y) (fun b c => b && c) p q).1.t2).length) p7_c3, .slice p7_4 (((bitQ (fun x y => x &&& y) (fun b c => b && c) p q).1.q2).length) p7_c4]) hA rfl rfl rfl (does_extract (vs := [.agg #[.bool ((bitQ (fun x y => x &&& y) (fun b c => b && c) p q).1.b1), .slice p7_1 (((bitQ (fun x y => x &&& y) (fun b c => b && c) p q).1.t1).length) p7_c1, .slice p7_2 (((bitQ (fun x y => x &&& y) (fun b c => b && c) p q).1.q1).length) p7_c2, .bool ((bitQ (fun x y => x &&& y) (fun b c => b && c) p q).1.b2), .slice p7_3 (((bitQ (fun x y => x &&& y) (fun b c => b && c) p q).1.t2).length) p7_c3, .slice p7_4 (((bitQ (fun x y => x &&& y) (fun b c => b && c) p q).1.q2).length) p7_c4], .int .i64 ((bitQ (fun x y => x &&& y) (fun b c => b && c) p q).2)]) rfl rfl) ?_
  intro a hA
  refine seq_do (v := .int .i64 ((bitQ (fun x y => x &&& y) (fun b c => b && c) p q).2)) hA rfl rfl rfl (does_extract (vs := [.agg #[.bool ((bitQ (fun x y => x &&& y) (fun b c => b && c) p q).1.b1), .slice p7_1 (((bitQ (fun x y => x &&& y) (fun b c => b && c) p q).1.t1).length) p7_c1, .slice p7_2 (((bitQ (fun x y => x &&& y) (fun b c => b && c) p q).1.q1).length) p7_c2, .bool ((bitQ (fun x y => x &&& y) (fun b c => b && c) p q).1.b2), .slice p7_3 (((bitQ (fun x y => x &&& y) (fun b c => b && c) p q).1.t2).length) p7_c3, .slice p7_4 (((bitQ (fun x y => x &&& y) (fun b c => b && c) p q).1.q2).length) p7_c4], .int .i64 ((bitQ (fun x y => x &&& y) (fun b c => b && c) p q).2)]) rfl rfl) ?_
  intro a hA
  refine seq_new (vs := [.bool false, .slice none 0 0, .slice none 0 0, .bool false, .slice none 0 0, .slice none 0 0]) (t := 26) hA hS rfl rfl rfl (fun g => .pointer (some ⟨g, 0, none⟩)) (does_alloc (z := .agg #[.bool false, .slice none 0 0, .slice none 0 0, .bool false, .slice none 0 0, .slice none 0 0]) (by kernel_rfl) rfl) rfl ?_
  intro g11 w12 hS a hA
  refine seq_store (us := [.bool ((bitQ (fun x y => x &&& y) (fun b c => b && c) p q).1.b1), .slice p7_1 (((bitQ (fun x y => x &&& y) (fun b c => b && c) p q).1.t1).length) p7_c1, .slice p7_2 (((bitQ (fun x y => x &&& y) (fun b c => b && c) p q).1.q1).length) p7_c2, .bool ((bitQ (fun x y => x &&& y) (fun b c => b && c) p q).1.b2), .slice p7_3 (((bitQ (fun x y => x &&& y) (fun b c => b && c) p q).1.t2).length) p7_c3, .slice p7_4 (((bitQ (fun x y => x &&& y) (fun b c => b && c) p q).1.q2).length) p7_c4]) hA hS rfl rfl (sets_store (cs := [.bool ((bitQ (fun x y => x &&& y) (fun b c => b && c) p q).1.b1), .slice p7_1 (((bitQ (fun x y => x &&& y) (fun b c => b && c) p q).1.t1).length) p7_c1, .slice p7_2 (((bitQ (fun x y => x &&& y) (fun b c => b && c) p q).1.q1).length) p7_c2, .bool ((bitQ (fun x y => x &&& y) (fun b c => b && c) p q).1.b2), .slice p7_3 (((bitQ (fun x y => x &&& y) (fun b c => b && c) p q).1.t2).length) p7_c3, .slice p7_4 (((bitQ (fun x y => x &&& y) (fun b c => b && c) p q).1.q2).length) p7_c4]) rfl rfl rfl (by kernel_rfl) hS 0 rfl rfl rfl) 0 rfl rfl rfl rfl ?_
  intro w13 hS
  refine seq_do hA rfl rfl rfl (does_assign rfl) ?_
  intro a hA
  refine seq_end ?_
  refine hK6 _ _ ?_
  refine wp_seq_k (fun K14 hK14 => ?_)
  refine wp_region_lit ?_
  refine seq_do (v := .agg #[.bool p.b1, .slice a1 p.t1.length ac1, .slice a2 p.q1.length ac2, .bool p.b2, .slice a3 p.t2.length ac3, .slice a4 p.q2.length ac4]) hA rfl rfl rfl (does_loadS hS isS_26 rfl 2 rfl (cs := [.bool p.b1, .slice a1 p.t1.length ac1, .slice a2 p.q1.length ac2, .bool p.b2, .slice a3 p.t2.length ac3, .slice a4 p.q2.length ac4]) rfl rfl) ?_
  intro a hA
  refine seq_do (v := .agg #[.bool q.b1, .slice u1 q.t1.length uc1, .slice u2 q.q1.length uc2, .bool q.b2, .slice u3 q.t2.length uc3, .slice u4 q.q2.length uc4]) hA rfl rfl rfl (does_loadS hS isS_26 rfl 1 rfl (cs := [.bool q.b1, .slice u1 q.t1.length uc1, .slice u2 q.q1.length uc2, .bool q.b2, .slice u3 q.t2.length uc3, .slice u4 q.q2.length uc4]) rfl rfl) ?_
  intro a hA
  refine seq_call hA rfl rfl rfl (enters_func  rfl rfl (fun w => by kernel_rfl)) (randQ_any (show Nm _ p a1 ac1 a2 ac2 a3 ac3 a4 ac4 from ⟨⟨(hS.rd 11 rfl), ha.s1.nil, ha.s1.cap⟩, ⟨(hS.rd 10 rfl), ha.s2.nil, ha.s2.cap⟩, ⟨(hS.rd 9 rfl), ha.s3.nil, ha.s3.cap⟩, ⟨(hS.rd 8 rfl), ha.s4.nil, ha.s4.cap⟩⟩) hl (show Nm _ q u1 uc1 u2 uc2 u3 uc3 u4 uc4 from ⟨⟨(hS.rd 7 rfl), hu.s1.nil, hu.s1.cap⟩, ⟨(hS.rd 6 rfl), hu.s2.nil, hu.s2.cap⟩, ⟨(hS.rd 5 rfl), hu.s3.nil, hu.s3.cap⟩, ⟨(hS.rd 4 rfl), hu.s4.nil, hu.s4.cap⟩⟩) hm) ?_
  rintro _ w18 ⟨p15_1, p15_c1, p15_2, p15_c2, p15_3, p15_c3, p15_4, p15_c4, rfl, hn16, hb17⟩
  replace hS := hS.call hb17
  replace hS := hS.addR hn16.s1.rd
  replace hS := hS.addR hn16.s2.rd
  replace hS := hS.addR hn16.s3.rd
  replace hS := hS.addR hn16.s4.rd
  refine ⟨_, rfl, ?_⟩
  intro a hA
  refine seq_do hA rfl rfl rfl (does_move rfl) ?_
  intro a hA
  refine seq_do (v := .agg #[.bool ((bitQ (fun x y => x &&& y) (fun b c => b && c) p q).1.b1), .slice p15_1 (((bitQ (fun x y => x &&& y) (fun b c => b && c) p q).1.t1).length) p15_c1, .slice p15_2 (((bitQ (fun x y => x &&& y) (fun b c => b && c) p q).1.q1).length) p15_c2, .bool ((bitQ (fun x y => x &&& y) (fun b c => b && c) p q).1.b2), .slice p15_3 (((bitQ (fun x y => x &&& y) (fun b c => b && c) p q).1.t2).length) p15_c3, .slice p15_4 (((bitQ (fun x y => x &&& y) (fun b c => b && c) p q).1.q2).length) p15_c4]) hA rfl rfl rfl (does_extract (vs := [.agg #[.bool ((bitQ (fun x y => x &&& y) (fun b c => b && c) p q).1.b1), .slice p15_1 (((bitQ (fun x y => x &&& y) (fun b c => b && c) p q).1.t1).length) p15_c1, .slice p15_2 (((bitQ (fun x y => x &&& y) (fun b c => b && c) p q).1.q1).length) p15_c2, .bool ((bitQ (fun x y => x &&& y) (fun b c => b && c) p q).1.b2), .slice p15_3 (((bitQ (fun x y => x &&& y) (fun b c => b && c) p q).1.t2).length) p15_c3, .slice p15_4 (((bitQ (fun x y => x &&& y) (fun b c => b && c) p q).1.q2).length) p15_c4], .int .i64 ((bitQ (fun x y => x &&& y) (fun b c => b && c) p q).2)]) rfl rfl) ?_
  intro a hA
  refine seq_do (v := .int .i64 ((bitQ (fun x y => x &&& y) (fun b c => b && c) p q).2)) hA rfl rfl rfl (does_extract (vs := [.agg #[.bool ((bitQ (fun x y => x &&& y) (fun b c => b && c) p q).1.b1), .slice p15_1 (((bitQ (fun x y => x &&& y) (fun b c => b && c) p q).1.t1).length) p15_c1, .slice p15_2 (((bitQ (fun x y => x &&& y) (fun b c => b && c) p q).1.q1).length) p15_c2, .bool ((bitQ (fun x y => x &&& y) (fun b c => b && c) p q).1.b2), .slice p15_3 (((bitQ (fun x y => x &&& y) (fun b c => b && c) p q).1.t2).length) p15_c3, .slice p15_4 (((bitQ (fun x y => x &&& y) (fun b c => b && c) p q).1.q2).length) p15_c4], .int .i64 ((bitQ (fun x y => x &&& y) (fun b c => b && c) p q).2)]) rfl rfl) ?_
  intro a hA
  refine seq_new (vs := [.bool false, .slice none 0 0, .slice none 0 0, .bool false, .slice none 0 0, .slice none 0 0]) (t := 26) hA hS rfl rfl rfl (fun g => .pointer (some ⟨g, 0, none⟩)) (does_alloc (z := .agg #[.bool false, .slice none 0 0, .slice none 0 0, .bool false, .slice none 0 0, .slice none 0 0]) (by kernel_rfl) rfl) rfl ?_
  intro g19 w20 hS a hA
  refine seq_store (us := [.bool ((bitQ (fun x y => x &&& y) (fun b c => b && c) p q).1.b1), .slice p15_1 (((bitQ (fun x y => x &&& y) (fun b c => b && c) p q).1.t1).length) p15_c1, .slice p15_2 (((bitQ (fun x y => x &&& y) (fun b c => b && c) p q).1.q1).length) p15_c2, .bool ((bitQ (fun x y => x &&& y) (fun b c => b && c) p q).1.b2), .slice p15_3 (((bitQ (fun x y => x &&& y) (fun b c => b && c) p q).1.t2).length) p15_c3, .slice p15_4 (((bitQ (fun x y => x &&& y) (fun b c => b && c) p q).1.q2).length) p15_c4]) hA hS rfl rfl (sets_store (cs := [.bool ((bitQ (fun x y => x &&& y) (fun b c => b && c) p q).1.b1), .slice p15_1 (((bitQ (fun x y => x &&& y) (fun b c => b && c) p q).1.t1).length) p15_c1, .slice p15_2 (((bitQ (fun x y => x &&& y) (fun b c => b && c) p q).1.q1).length) p15_c2, .bool ((bitQ (fun x y => x &&& y) (fun b c => b && c) p q).1.b2), .slice p15_3 (((bitQ (fun x y => x &&& y) (fun b c => b && c) p q).1.t2).length) p15_c3, .slice p15_4 (((bitQ (fun x y => x &&& y) (fun b c => b && c) p q).1.q2).length) p15_c4]) rfl rfl rfl (by kernel_rfl) hS 0 rfl rfl rfl) 0 rfl rfl rfl rfl ?_
  intro w21 hS
  refine seq_do hA rfl rfl rfl (does_assign rfl) ?_
  intro a hA
  refine seq_end ?_
  refine hK14 _ _ ?_
  refine wp_seq_k (fun K22 hK22 => ?_)
  refine wp_region_lit ?_
  refine seq_do (v := .agg #[.bool p.b1, .slice a1 p.t1.length ac1, .slice a2 p.q1.length ac2, .bool p.b2, .slice a3 p.t2.length ac3, .slice a4 p.q2.length ac4]) hA rfl rfl rfl (does_loadS hS isS_26 rfl 3 rfl (cs := [.bool p.b1, .slice a1 p.t1.length ac1, .slice a2 p.q1.length ac2, .bool p.b2, .slice a3 p.t2.length ac3, .slice a4 p.q2.length ac4]) rfl rfl) ?_
  intro a hA
  refine seq_do (v := .agg #[.bool q.b1, .slice u1 q.t1.length uc1, .slice u2 q.q1.length uc2, .bool q.b2, .slice u3 q.t2.length uc3, .slice u4 q.q2.length uc4]) hA rfl rfl rfl (does_loadS hS isS_26 rfl 2 rfl (cs := [.bool q.b1, .slice u1 q.t1.length uc1, .slice u2 q.q1.length uc2, .bool q.b2, .slice u3 q.t2.length uc3, .slice u4 q.q2.length uc4]) rfl rfl) ?_
  intro a hA
  refine seq_call hA rfl rfl rfl (enters_func  rfl rfl (fun w => by kernel_rfl)) (orQ_any (show Nm _ p a1 ac1 a2 ac2 a3 ac3 a4 ac4 from ⟨⟨(hS.rd 15 rfl), ha.s1.nil, ha.s1.cap⟩, ⟨(hS.rd 14 rfl), ha.s2.nil, ha.s2.cap⟩, ⟨(hS.rd 13 rfl), ha.s3.nil, ha.s3.cap⟩, ⟨(hS.rd 12 rfl), ha.s4.nil, ha.s4.cap⟩⟩) hl (show Nm _ q u1 uc1 u2 uc2 u3 uc3 u4 uc4 from ⟨⟨(hS.rd 11 rfl), hu.s1.nil, hu.s1.cap⟩, ⟨(hS.rd 10 rfl), hu.s2.nil, hu.s2.cap⟩, ⟨(hS.rd 9 rfl), hu.s3.nil, hu.s3.cap⟩, ⟨(hS.rd 8 rfl), hu.s4.nil, hu.s4.cap⟩⟩) hm) ?_
  rintro _ w26 ⟨p23_1, p23_c1, p23_2, p23_c2, p23_3, p23_c3, p23_4, p23_c4, rfl, hn24, hb25⟩
  replace hS := hS.call hb25
  replace hS := hS.addR hn24.s1.rd
  replace hS := hS.addR hn24.s2.rd
  replace hS := hS.addR hn24.s3.rd
  replace hS := hS.addR hn24.s4.rd
  refine ⟨_, rfl, ?_⟩
  intro a hA
  refine seq_do hA rfl rfl rfl (does_move rfl) ?_
  intro a hA
  refine seq_do (v := .agg #[.bool ((bitQ (fun x y => x ||| y) (fun b c => b || c) p q).1.b1), .slice p23_1 (((bitQ (fun x y => x ||| y) (fun b c => b || c) p q).1.t1).length) p23_c1, .slice p23_2 (((bitQ (fun x y => x ||| y) (fun b c => b || c) p q).1.q1).length) p23_c2, .bool ((bitQ (fun x y => x ||| y) (fun b c => b || c) p q).1.b2), .slice p23_3 (((bitQ (fun x y => x ||| y) (fun b c => b || c) p q).1.t2).length) p23_c3, .slice p23_4 (((bitQ (fun x y => x ||| y) (fun b c => b || c) p q).1.q2).length) p23_c4]) hA rfl rfl rfl (does_extract (vs := [.agg #[.bool ((bitQ (fun x y => x ||| y) (fun b c => b || c) p q).1.b1), .slice p23_1 (((bitQ (fun x y => x ||| y) (fun b c => b || c) p q).1.t1).length) p23_c1, .slice p23_2 (((bitQ (fun x y => x ||| y) (fun b c => b || c) p q).1.q1).length) p23_c2, .bool ((bitQ (fun x y => x ||| y) (fun b c => b || c) p q).1.b2), .slice p23_3 (((bitQ (fun x y => x ||| y) (fun b c => b || c) p q).1.t2).length) p23_c3, .slice p23_4 (((bitQ (fun x y => x ||| y) (fun b c => b || c) p q).1.q2).length) p23_c4], .int .i64 ((bitQ (fun x y => x ||| y) (fun b c => b || c) p q).2)]) rfl rfl) ?_
  intro a hA
  refine seq_do (v := .int .i64 ((bitQ (fun x y => x ||| y) (fun b c => b || c) p q).2)) hA rfl rfl rfl (does_extract (vs := [.agg #[.bool ((bitQ (fun x y => x ||| y) (fun b c => b || c) p q).1.b1), .slice p23_1 (((bitQ (fun x y => x ||| y) (fun b c => b || c) p q).1.t1).length) p23_c1, .slice p23_2 (((bitQ (fun x y => x ||| y) (fun b c => b || c) p q).1.q1).length) p23_c2, .bool ((bitQ (fun x y => x ||| y) (fun b c => b || c) p q).1.b2), .slice p23_3 (((bitQ (fun x y => x ||| y) (fun b c => b || c) p q).1.t2).length) p23_c3, .slice p23_4 (((bitQ (fun x y => x ||| y) (fun b c => b || c) p q).1.q2).length) p23_c4], .int .i64 ((bitQ (fun x y => x ||| y) (fun b c => b || c) p q).2)]) rfl rfl) ?_
  intro a hA
  refine seq_new (vs := [.bool false, .slice none 0 0, .slice none 0 0, .bool false, .slice none 0 0, .slice none 0 0]) (t := 26) hA hS rfl rfl rfl (fun g => .pointer (some ⟨g, 0, none⟩)) (does_alloc (z := .agg #[.bool false, .slice none 0 0, .slice none 0 0, .bool false, .slice none 0 0, .slice none 0 0]) (by kernel_rfl) rfl) rfl ?_
  intro g27 w28 hS a hA
  refine seq_store (us := [.bool ((bitQ (fun x y => x ||| y) (fun b c => b || c) p q).1.b1), .slice p23_1 (((bitQ (fun x y => x ||| y) (fun b c => b || c) p q).1.t1).length) p23_c1, .slice p23_2 (((bitQ (fun x y => x ||| y) (fun b c => b || c) p q).1.q1).length) p23_c2, .bool ((bitQ (fun x y => x ||| y) (fun b c => b || c) p q).1.b2), .slice p23_3 (((bitQ (fun x y => x ||| y) (fun b c => b || c) p q).1.t2).length) p23_c3, .slice p23_4 (((bitQ (fun x y => x ||| y) (fun b c => b || c) p q).1.q2).length) p23_c4]) hA hS rfl rfl (sets_store (cs := [.bool ((bitQ (fun x y => x ||| y) (fun b c => b || c) p q).1.b1), .slice p23_1 (((bitQ (fun x y => x ||| y) (fun b c => b || c) p q).1.t1).length) p23_c1, .slice p23_2 (((bitQ (fun x y => x ||| y) (fun b c => b || c) p q).1.q1).length) p23_c2, .bool ((bitQ (fun x y => x ||| y) (fun b c => b || c) p q).1.b2), .slice p23_3 (((bitQ (fun x y => x ||| y) (fun b c => b || c) p q).1.t2).length) p23_c3, .slice p23_4 (((bitQ (fun x y => x ||| y) (fun b c => b || c) p q).1.q2).length) p23_c4]) rfl rfl rfl (by kernel_rfl) hS 0 rfl rfl rfl) 0 rfl rfl rfl rfl ?_
  intro w29 hS
  refine seq_do hA rfl rfl rfl (does_assign rfl) ?_
  intro a hA
  refine seq_end ?_
  refine hK22 _ _ ?_
  refine wp_seq_k (fun K30 hK30 => ?_)
  refine wp_region_lit ?_
  refine seq_do (v := .agg #[.bool p.b1, .slice a1 p.t1.length ac1, .slice a2 p.q1.length ac2, .bool p.b2, .slice a3 p.t2.length ac3, .slice a4 p.q2.length ac4]) hA rfl rfl rfl (does_loadS hS isS_26 rfl 4 rfl (cs := [.bool p.b1, .slice a1 p.t1.length ac1, .slice a2 p.q1.length ac2, .bool p.b2, .slice a3 p.t2.length ac3, .slice a4 p.q2.length ac4]) rfl rfl) ?_
  intro a hA
  refine seq_do (v := .agg #[.bool q.b1, .slice u1 q.t1.length uc1, .slice u2 q.q1.length uc2, .bool q.b2, .slice u3 q.t2.length uc3, .slice u4 q.q2.length uc4]) hA rfl rfl rfl (does_loadS hS isS_26 rfl 3 rfl (cs := [.bool q.b1, .slice u1 q.t1.length uc1, .slice u2 q.q1.length uc2, .bool q.b2, .slice u3 q.t2.length uc3, .slice u4 q.q2.length uc4]) rfl rfl) ?_
  intro a hA
  refine seq_call hA rfl rfl rfl (enters_func  rfl rfl (fun w => by kernel_rfl)) (rorQ_any (show Nm _ p a1 ac1 a2 ac2 a3 ac3 a4 ac4 from ⟨⟨(hS.rd 19 rfl), ha.s1.nil, ha.s1.cap⟩, ⟨(hS.rd 18 rfl), ha.s2.nil, ha.s2.cap⟩, ⟨(hS.rd 17 rfl), ha.s3.nil, ha.s3.cap⟩, ⟨(hS.rd 16 rfl), ha.s4.nil, ha.s4.cap⟩⟩) hl (show Nm _ q u1 uc1 u2 uc2 u3 uc3 u4 uc4 from ⟨⟨(hS.rd 15 rfl), hu.s1.nil, hu.s1.cap⟩, ⟨(hS.rd 14 rfl), hu.s2.nil, hu.s2.cap⟩, ⟨(hS.rd 13 rfl), hu.s3.nil, hu.s3.cap⟩, ⟨(hS.rd 12 rfl), hu.s4.nil, hu.s4.cap⟩⟩) hm) ?_
  rintro _ w34 ⟨p31_1, p31_c1, p31_2, p31_c2, p31_3, p31_c3, p31_4, p31_c4, rfl, hn32, hb33⟩
  replace hS := hS.call hb33
  replace hS := hS.addR hn32.s1.rd
  replace hS := hS.addR hn32.s2.rd
  replace hS := hS.addR hn32.s3.rd
  replace hS := hS.addR hn32.s4.rd
  refine ⟨_, rfl, ?_⟩
  intro a hA
  refine seq_do hA rfl rfl rfl (does_move rfl) ?_
  intro a hA
  refine seq_do (v := .agg #[.bool ((bitQ (fun x y => x ||| y) (fun b c => b || c) p q).1.b1), .slice p31_1 (((bitQ (fun x y => x ||| y) (fun b c => b || c) p q).1.t1).length) p31_c1, .slice p31_2 (((bitQ (fun x y => x ||| y) (fun b c => b || c) p q).1.q1).length) p31_c2, .bool ((bitQ (fun x y => x ||| y) (fun b c => b || c) p q).1.b2), .slice p31_3 (((bitQ (fun x y => x ||| y) (fun b c => b || c) p q).1.t2).length) p31_c3, .slice p31_4 (((bitQ (fun x y => x ||| y) (fun b c => b || c) p q).1.q2).length) p31_c4]) hA rfl rfl rfl (does_extract (vs := [.agg #[.bool ((bitQ (fun x y => x ||| y) (fun b c => b || c) p q).1.b1), .slice p31_1 (((bitQ (fun x y => x ||| y) (fun b c => b || c) p q).1.t1).length) p31_c1, .slice p31_2 (((bitQ (fun x y => x ||| y) (fun b c => b || c) p q).1.q1).length) p31_c2, .bool ((bitQ (fun x y => x ||| y) (fun b c => b || c) p q).1.b2), .slice p31_3 (((bitQ (fun x y => x ||| y) (fun b c => b || c) p q).1.t2).length) p31_c3, .slice p31_4 (((bitQ (fun x y => x ||| y) (fun b c => b || c) p q).1.q2).length) p31_c4], .int .i64 ((bitQ (fun x y => x ||| y) (fun b c => b || c) p q).2)]) rfl rfl) ?_
  intro a hA
  refine seq_do (v := .int .i64 ((bitQ (fun x y => x ||| y) (fun b c => b || c) p q).2)) hA rfl rfl rfl (does_extract (vs := [.agg #[.bool ((bitQ (fun x y => x ||| y) (fun b c => b || c) p q).1.b1), .slice p31_1 (((bitQ (fun x y => x ||| y) (fun b c => b || c) p q).1.t1).length) p31_c1, .slice p31_2 (((bitQ (fun x y => x ||| y) (fun b c => b || c) p q).1.q1).length) p31_c2, .bool ((bitQ (fun x y => x ||| y) (fun b c => b || c) p q).1.b2), .slice p31_3 (((bitQ (fun x y => x ||| y) (fun b c => b || c) p q).1.t2).length) p31_c3, .slice p31_4 (((bitQ (fun x y => x ||| y) (fun b c => b || c) p q).1.q2).length) p31_c4], .int .i64 ((bitQ (fun x y => x ||| y) (fun b c => b || c) p q).2)]) rfl rfl) ?_
  intro a hA
  refine seq_new (vs := [.bool false, .slice none 0 0, .slice none 0 0, .bool false, .slice none 0 0, .slice none 0 0]) (t := 26) hA hS rfl rfl rfl (fun g => .pointer (some ⟨g, 0, none⟩)) (does_alloc (z := .agg #[.bool false, .slice none 0 0, .slice none 0 0, .bool false, .slice none 0 0, .slice none 0 0]) (by kernel_rfl) rfl) rfl ?_
  intro g35 w36 hS a hA
  refine seq_store (us := [.bool ((bitQ (fun x y => x ||| y) (fun b c => b || c) p q).1.b1), .slice p31_1 (((bitQ (fun x y => x ||| y) (fun b c => b || c) p q).1.t1).length) p31_c1, .slice p31_2 (((bitQ (fun x y => x ||| y) (fun b c => b || c) p q).1.q1).length) p31_c2, .bool ((bitQ (fun x y => x ||| y) (fun b c => b || c) p q).1.b2), .slice p31_3 (((bitQ (fun x y => x ||| y) (fun b c => b || c) p q).1.t2).length) p31_c3, .slice p31_4 (((bitQ (fun x y => x ||| y) (fun b c => b || c) p q).1.q2).length) p31_c4]) hA hS rfl rfl (sets_store (cs := [.bool ((bitQ (fun x y => x ||| y) (fun b c => b || c) p q).1.b1), .slice p31_1 (((bitQ (fun x y => x ||| y) (fun b c => b || c) p q).1.t1).length) p31_c1, .slice p31_2 (((bitQ (fun x y => x ||| y) (fun b c => b || c) p q).1.q1).length) p31_c2, .bool ((bitQ (fun x y => x ||| y) (fun b c => b || c) p q).1.b2), .slice p31_3 (((bitQ (fun x y => x ||| y) (fun b c => b || c) p q).1.t2).length) p31_c3, .slice p31_4 (((bitQ (fun x y => x ||| y) (fun b c => b || c) p q).1.q2).length) p31_c4]) rfl rfl rfl (by kernel_rfl) hS 0 rfl rfl rfl) 0 rfl rfl rfl rfl ?_
  intro w37 hS
  refine seq_do hA rfl rfl rfl (does_assign rfl) ?_
  intro a hA
  refine seq_end ?_
  refine hK30 _ _ ?_
  refine wp_seq_k (fun K38 hK38 => ?_)
  refine wp_region_lit ?_
  refine seq_do (v := .agg #[.bool p.b1, .slice a1 p.t1.length ac1, .slice a2 p.q1.length ac2, .bool p.b2, .slice a3 p.t2.length ac3, .slice a4 p.q2.length ac4]) hA rfl rfl rfl (does_loadS hS isS_26 rfl 5 rfl (cs := [.bool p.b1, .slice a1 p.t1.length ac1, .slice a2 p.q1.length ac2, .bool p.b2, .slice a3 p.t2.length ac3, .slice a4 p.q2.length ac4]) rfl rfl) ?_
  intro a hA
  refine seq_do (v := .agg #[.bool q.b1, .slice u1 q.t1.length uc1, .slice u2 q.q1.length uc2, .bool q.b2, .slice u3 q.t2.length uc3, .slice u4 q.q2.length uc4]) hA rfl rfl rfl (does_loadS hS isS_26 rfl 4 rfl (cs := [.bool q.b1, .slice u1 q.t1.length uc1, .slice u2 q.q1.length uc2, .bool q.b2, .slice u3 q.t2.length uc3, .slice u4 q.q2.length uc4]) rfl rfl) ?_
  intro a hA
  refine seq_call hA rfl rfl rfl (enters_func  rfl rfl (fun w => by kernel_rfl)) (xorQ_any (show Nm _ p a1 ac1 a2 ac2 a3 ac3 a4 ac4 from ⟨⟨(hS.rd 23 rfl), ha.s1.nil, ha.s1.cap⟩, ⟨(hS.rd 22 rfl), ha.s2.nil, ha.s2.cap⟩, ⟨(hS.rd 21 rfl), ha.s3.nil, ha.s3.cap⟩, ⟨(hS.rd 20 rfl), ha.s4.nil, ha.s4.cap⟩⟩) hl (show Nm _ q u1 uc1 u2 uc2 u3 uc3 u4 uc4 from ⟨⟨(hS.rd 19 rfl), hu.s1.nil, hu.s1.cap⟩, ⟨(hS.rd 18 rfl), hu.s2.nil, hu.s2.cap⟩, ⟨(hS.rd 17 rfl), hu.s3.nil, hu.s3.cap⟩, ⟨(hS.rd 16 rfl), hu.s4.nil, hu.s4.cap⟩⟩) hm) ?_
  rintro _ w42 ⟨p39_1, p39_c1, p39_2, p39_c2, p39_3, p39_c3, p39_4, p39_c4, rfl, hn40, hb41⟩
  replace hS := hS.call hb41
  replace hS := hS.addR hn40.s1.rd
  replace hS := hS.addR hn40.s2.rd
  replace hS := hS.addR hn40.s3.rd
  replace hS := hS.addR hn40.s4.rd
  refine ⟨_, rfl, ?_⟩
  intro a hA
  refine seq_do hA rfl rfl rfl (does_move rfl) ?_
  intro a hA
  refine seq_do (v := .agg #[.bool ((bitQ (fun x y => x ^^^ y) (fun b c => b != c) p q).1.b1), .slice p39_1 (((bitQ (fun x y => x ^^^ y) (fun b c => b != c) p q).1.t1).length) p39_c1, .slice p39_2 (((bitQ (fun x y => x ^^^ y) (fun b c => b != c) p q).1.q1).length) p39_c2, .bool ((bitQ (fun x y => x ^^^ y) (fun b c => b != c) p q).1.b2), .slice p39_3 (((bitQ (fun x y => x ^^^ y) (fun b c => b != c) p q).1.t2).length) p39_c3, .slice p39_4 (((bitQ (fun x y => x ^^^ y) (fun b c => b != c) p q).1.q2).length) p39_c4]) hA rfl rfl rfl (does_extract (vs := [.agg #[.bool ((bitQ (fun x y => x ^^^ y) (fun b c => b != c) p q).1.b1), .slice p39_1 (((bitQ (fun x y => x ^^^ y) (fun b c => b != c) p q).1.t1).length) p39_c1, .slice p39_2 (((bitQ (fun x y => x ^^^ y) (fun b c => b != c) p q).1.q1).length) p39_c2, .bool ((bitQ (fun x y => x ^^^ y) (fun b c => b != c) p q).1.b2), .slice p39_3 (((bitQ (fun x y => x ^^^ y) (fun b c => b != c) p q).1.t2).length) p39_c3, .slice p39_4 (((bitQ (fun x y => x ^^^ y) (fun b c => b != c) p q).1.q2).length) p39_c4], .int .i64 ((bitQ (fun x y => x ^^^ y) (fun b c => b != c) p q).2)]) rfl rfl) ?_
  intro a hA
  refine seq_do (v := .int .i64 ((bitQ (fun x y => x ^^^ y) (fun b c => b != c) p q).2)) hA rfl rfl rfl (does_extract (vs := [.agg #[.bool ((bitQ (fun x y => x ^^^ y) (fun b c => b != c) p q).1.b1), .slice p39_1 (((bitQ (fun x y => x ^^^ y) (fun b c => b != c) p q).1.t1).length) p39_c1, .slice p39_2 (((bitQ (fun x y => x ^^^ y) (fun b c => b != c) p q).1.q1).length) p39_c2, .bool ((bitQ (fun x y => x ^^^ y) (fun b c => b != c) p q).1.b2), .slice p39_3 (((bitQ (fun x y => x ^^^ y) (fun b c => b != c) p q).1.t2).length) p39_c3, .slice p39_4 (((bitQ (fun x y => x ^^^ y) (fun b c => b != c) p q).1.q2).length) p39_c4], .int .i64 ((bitQ (fun x y => x ^^^ y) (fun b c => b != c) p q).2)]) rfl rfl) ?_
  intro a hA
  refine seq_new (vs := [.bool false, .slice none 0 0, .slice none 0 0, .bool false, .slice none 0 0, .slice none 0 0]) (t := 26) hA hS rfl rfl rfl (fun g => .pointer (some ⟨g, 0, none⟩)) (does_alloc (z := .agg #[.bool false, .slice none 0 0, .slice none 0 0, .bool false, .slice none 0 0, .slice none 0 0]) (by kernel_rfl) rfl) rfl ?_
  intro g43 w44 hS a hA
  refine seq_store (us := [.bool ((bitQ (fun x y => x ^^^ y) (fun b c => b != c) p q).1.b1), .slice p39_1 (((bitQ (fun x y => x ^^^ y) (fun b c => b != c) p q).1.t1).length) p39_c1, .slice p39_2 (((bitQ (fun x y => x ^^^ y) (fun b c => b != c) p q).1.q1).length) p39_c2, .bool ((bitQ (fun x y => x ^^^ y) (fun b c => b != c) p q).1.b2), .slice p39_3 (((bitQ (fun x y => x ^^^ y) (fun b c => b != c) p q).1.t2).length) p39_c3, .slice p39_4 (((bitQ (fun x y => x ^^^ y) (fun b c => b != c) p q).1.q2).length) p39_c4]) hA hS rfl rfl (sets_store (cs := [.bool ((bitQ (fun x y => x ^^^ y) (fun b c => b != c) p q).1.b1), .slice p39_1 (((bitQ (fun x y => x ^^^ y) (fun b c => b != c) p q).1.t1).length) p39_c1, .slice p39_2 (((bitQ (fun x y => x ^^^ y) (fun b c => b != c) p q).1.q1).length) p39_c2, .bool ((bitQ (fun x y => x ^^^ y) (fun b c => b != c) p q).1.b2), .slice p39_3 (((bitQ (fun x y => x ^^^ y) (fun b c => b != c) p q).1.t2).length) p39_c3, .slice p39_4 (((bitQ (fun x y => x ^^^ y) (fun b c => b != c) p q).1.q2).length) p39_c4]) rfl rfl rfl (by kernel_rfl) hS 0 rfl rfl rfl) 0 rfl rfl rfl rfl ?_
  intro w45 hS
  refine seq_do hA rfl rfl rfl (does_assign rfl) ?_
  intro a hA
  refine seq_end ?_
  refine hK38 _ _ ?_
  refine wp_seq_k (fun K46 hK46 => ?_)
  refine wp_region_lit ?_
  refine seq_do (v := .agg #[.bool p.b1, .slice a1 p.t1.length ac1, .slice a2 p.q1.length ac2, .bool p.b2, .slice a3 p.t2.length ac3, .slice a4 p.q2.length ac4]) hA rfl rfl rfl (does_loadS hS isS_26 rfl 6 rfl (cs := [.bool p.b1, .slice a1 p.t1.length ac1, .slice a2 p.q1.length ac2, .bool p.b2, .slice a3 p.t2.length ac3, .slice a4 p.q2.length ac4]) rfl rfl) ?_
  intro a hA
  refine seq_do (v := .agg #[.bool q.b1, .slice u1 q.t1.length uc1, .slice u2 q.q1.length uc2, .bool q.b2, .slice u3 q.t2.length uc3, .slice u4 q.q2.length uc4]) hA rfl rfl rfl (does_loadS hS isS_26 rfl 5 rfl (cs := [.bool q.b1, .slice u1 q.t1.length uc1, .slice u2 q.q1.length uc2, .bool q.b2, .slice u3 q.t2.length uc3, .slice u4 q.q2.length uc4]) rfl rfl) ?_
  intro a hA
  refine seq_call hA rfl rfl rfl (enters_func  rfl rfl (fun w => by kernel_rfl)) (rxorQ_any (show Nm _ p a1 ac1 a2 ac2 a3 ac3 a4 ac4 from ⟨⟨(hS.rd 27 rfl), ha.s1.nil, ha.s1.cap⟩, ⟨(hS.rd 26 rfl), ha.s2.nil, ha.s2.cap⟩, ⟨(hS.rd 25 rfl), ha.s3.nil, ha.s3.cap⟩, ⟨(hS.rd 24 rfl), ha.s4.nil, ha.s4.cap⟩⟩) hl (show Nm _ q u1 uc1 u2 uc2 u3 uc3 u4 uc4 from ⟨⟨(hS.rd 23 rfl), hu.s1.nil, hu.s1.cap⟩, ⟨(hS.rd 22 rfl), hu.s2.nil, hu.s2.cap⟩, ⟨(hS.rd 21 rfl), hu.s3.nil, hu.s3.cap⟩, ⟨(hS.rd 20 rfl), hu.s4.nil, hu.s4.cap⟩⟩) hm) ?_
  rintro _ w50 ⟨p47_1, p47_c1, p47_2, p47_c2, p47_3, p47_c3, p47_4, p47_c4, rfl, hn48, hb49⟩
  replace hS := hS.call hb49
  replace hS := hS.addR hn48.s1.rd
  replace hS := hS.addR hn48.s2.rd
  replace hS := hS.addR hn48.s3.rd
  replace hS := hS.addR hn48.s4.rd
  refine ⟨_, rfl, ?_⟩
  intro a hA
  refine seq_do hA rfl rfl rfl (does_move rfl) ?_
  intro a hA
  refine seq_do (v := .agg #[.bool ((bitQ (fun x y => x ^^^ y) (fun b c => b != c) p q).1.b1), .slice p47_1 (((bitQ (fun x y => x ^^^ y) (fun b c => b != c) p q).1.t1).length) p47_c1, .slice p47_2 (((bitQ (fun x y => x ^^^ y) (fun b c => b != c) p q).1.q1).length) p47_c2, .bool ((bitQ (fun x y => x ^^^ y) (fun b c => b != c) p q).1.b2), .slice p47_3 (((bitQ (fun x y => x ^^^ y) (fun b c => b != c) p q).1.t2).length) p47_c3, .slice p47_4 (((bitQ (fun x y => x ^^^ y) (fun b c => b != c) p q).1.q2).length) p47_c4]) hA rfl rfl rfl (does_extract (vs := [.agg #[.bool ((bitQ (fun x y => x ^^^ y) (fun b c => b != c) p q).1.b1), .slice p47_1 (((bitQ (fun x y => x ^^^ y) (fun b c => b != c) p q).1.t1).length) p47_c1, .slice p47_2 (((bitQ (fun x y => x ^^^ y) (fun b c => b != c) p q).1.q1).length) p47_c2, .bool ((bitQ (fun x y => x ^^^ y) (fun b c => b != c) p q).1.b2), .slice p47_3 (((bitQ (fun x y => x ^^^ y) (fun b c => b != c) p q).1.t2).length) p47_c3, .slice p47_4 (((bitQ (fun x y => x ^^^ y) (fun b c => b != c) p q).1.q2).length) p47_c4], .int .i64 ((bitQ (fun x y => x ^^^ y) (fun b c => b != c) p q).2)]) rfl rfl) ?_
  intro a hA
  refine seq_do (v := .int .i64 ((bitQ (fun x y => x ^^^ y) (fun b c => b != c) p q).2)) hA rfl rfl rfl (does_extract (vs := [.agg #[.bool ((bitQ (fun x y => x ^^^ y) (fun b c => b != c) p q).1.b1), .slice p47_1 (((bitQ (fun x y => x ^^^ y) (fun b c => b != c) p q).1.t1).length) p47_c1, .slice p47_2 (((bitQ (fun x y => x ^^^ y) (fun b c => b != c) p q).1.q1).length) p47_c2, .bool ((bitQ (fun x y => x ^^^ y) (fun b c => b != c) p q).1.b2), .slice p47_3 (((bitQ (fun x y => x ^^^ y) (fun b c => b != c) p q).1.t2).length) p47_c3, .slice p47_4 (((bitQ (fun x y => x ^^^ y) (fun b c => b != c) p q).1.q2).length) p47_c4], .int .i64 ((bitQ (fun x y => x ^^^ y) (fun b c => b != c) p q).2)]) rfl rfl) ?_
  intro a hA
  refine seq_new (vs := [.bool false, .slice none 0 0, .slice none 0 0, .bool false, .slice none 0 0, .slice none 0 0]) (t := 26) hA hS rfl rfl rfl (fun g => .pointer (some ⟨g, 0, none⟩)) (does_alloc (z := .agg #[.bool false, .slice none 0 0, .slice none 0 0, .bool false, .slice none 0 0, .slice none 0 0]) (by kernel_rfl) rfl) rfl ?_
  intro g51 w52 hS a hA
  refine seq_store (us := [.bool ((bitQ (fun x y => x ^^^ y) (fun b c => b != c) p q).1.b1), .slice p47_1 (((bitQ (fun x y => x ^^^ y) (fun b c => b != c) p q).1.t1).length) p47_c1, .slice p47_2 (((bitQ (fun x y => x ^^^ y) (fun b c => b != c) p q).1.q1).length) p47_c2, .bool ((bitQ (fun x y => x ^^^ y) (fun b c => b != c) p q).1.b2), .slice p47_3 (((bitQ (fun x y => x ^^^ y) (fun b c => b != c) p q).1.t2).length) p47_c3, .slice p47_4 (((bitQ (fun x y => x ^^^ y) (fun b c => b != c) p q).1.q2).length) p47_c4]) hA hS rfl rfl (sets_store (cs := [.bool ((bitQ (fun x y => x ^^^ y) (fun b c => b != c) p q).1.b1), .slice p47_1 (((bitQ (fun x y => x ^^^ y) (fun b c => b != c) p q).1.t1).length) p47_c1, .slice p47_2 (((bitQ (fun x y => x ^^^ y) (fun b c => b != c) p q).1.q1).length) p47_c2, .bool ((bitQ (fun x y => x ^^^ y) (fun b c => b != c) p q).1.b2), .slice p47_3 (((bitQ (fun x y => x ^^^ y) (fun b c => b != c) p q).1.t2).length) p47_c3, .slice p47_4 (((bitQ (fun x y => x ^^^ y) (fun b c => b != c) p q).1.q2).length) p47_c4]) rfl rfl rfl (by kernel_rfl) hS 0 rfl rfl rfl) 0 rfl rfl rfl rfl ?_
  intro w53 hS
  refine seq_do hA rfl rfl rfl (does_assign rfl) ?_
  intro a hA
  refine seq_end ?_
  refine hK46 _ _ ?_
  refine wp_seq_k (fun K54 hK54 => ?_)
  refine wp_region_lit ?_
  refine seq_do (v := .agg #[.bool p.b1, .slice a1 p.t1.length ac1, .slice a2 p.q1.length ac2, .bool p.b2, .slice a3 p.t2.length ac3, .slice a4 p.q2.length ac4]) hA rfl rfl rfl (does_loadS hS isS_26 rfl 7 rfl (cs := [.bool p.b1, .slice a1 p.t1.length ac1, .slice a2 p.q1.length ac2, .bool p.b2, .slice a3 p.t2.length ac3, .slice a4 p.q2.length ac4]) rfl rfl) ?_
  intro a hA
  refine seq_call hA rfl rfl rfl (enters_func  rfl rfl (fun w => by kernel_rfl)) (notP_any (show Nm _ p a1 ac1 a2 ac2 a3 ac3 a4 ac4 from ⟨⟨(hS.rd 31 rfl), ha.s1.nil, ha.s1.cap⟩, ⟨(hS.rd 30 rfl), ha.s2.nil, ha.s2.cap⟩, ⟨(hS.rd 29 rfl), ha.s3.nil, ha.s3.cap⟩, ⟨(hS.rd 28 rfl), ha.s4.nil, ha.s4.cap⟩⟩) hl) ?_
  rintro _ w58 ⟨p55_1, p55_c1, p55_2, p55_c2, p55_3, p55_c3, p55_4, p55_c4, rfl, hn56, hb57⟩
  replace hS := hS.call hb57
  replace hS := hS.addR hn56.s1.rd
  replace hS := hS.addR hn56.s2.rd
  replace hS := hS.addR hn56.s3.rd
  replace hS := hS.addR hn56.s4.rd
  refine ⟨_, rfl, ?_⟩
  intro a hA
  refine seq_do hA rfl rfl rfl (does_move rfl) ?_
  intro a hA
  refine seq_do (v := .agg #[.bool ((notQ p).1.b1), .slice p55_1 (((notQ p).1.t1).length) p55_c1, .slice p55_2 (((notQ p).1.q1).length) p55_c2, .bool ((notQ p).1.b2), .slice p55_3 (((notQ p).1.t2).length) p55_c3, .slice p55_4 (((notQ p).1.q2).length) p55_c4]) hA rfl rfl rfl (does_extract (vs := [.agg #[.bool ((notQ p).1.b1), .slice p55_1 (((notQ p).1.t1).length) p55_c1, .slice p55_2 (((notQ p).1.q1).length) p55_c2, .bool ((notQ p).1.b2), .slice p55_3 (((notQ p).1.t2).length) p55_c3, .slice p55_4 (((notQ p).1.q2).length) p55_c4], .int .i64 ((notQ p).2)]) rfl rfl) ?_
  intro a hA
  refine seq_do (v := .int .i64 ((notQ p).2)) hA rfl rfl rfl (does_extract (vs := [.agg #[.bool ((notQ p).1.b1), .slice p55_1 (((notQ p).1.t1).length) p55_c1, .slice p55_2 (((notQ p).1.q1).length) p55_c2, .bool ((notQ p).1.b2), .slice p55_3 (((notQ p).1.t2).length) p55_c3, .slice p55_4 (((notQ p).1.q2).length) p55_c4], .int .i64 ((notQ p).2)]) rfl rfl) ?_
  intro a hA
  refine seq_new (vs := [.bool false, .slice none 0 0, .slice none 0 0, .bool false, .slice none 0 0, .slice none 0 0]) (t := 26) hA hS rfl rfl rfl (fun g => .pointer (some ⟨g, 0, none⟩)) (does_alloc (z := .agg #[.bool false, .slice none 0 0, .slice none 0 0, .bool false, .slice none 0 0, .slice none 0 0]) (by kernel_rfl) rfl) rfl ?_
  intro g59 w60 hS a hA
  refine seq_store (us := [.bool ((notQ p).1.b1), .slice p55_1 (((notQ p).1.t1).length) p55_c1, .slice p55_2 (((notQ p).1.q1).length) p55_c2, .bool ((notQ p).1.b2), .slice p55_3 (((notQ p).1.t2).length) p55_c3, .slice p55_4 (((notQ p).1.q2).length) p55_c4]) hA hS rfl rfl (sets_store (cs := [.bool ((notQ p).1.b1), .slice p55_1 (((notQ p).1.t1).length) p55_c1, .slice p55_2 (((notQ p).1.q1).length) p55_c2, .bool ((notQ p).1.b2), .slice p55_3 (((notQ p).1.t2).length) p55_c3, .slice p55_4 (((notQ p).1.q2).length) p55_c4]) rfl rfl rfl (by kernel_rfl) hS 0 rfl rfl rfl) 0 rfl rfl rfl rfl ?_
  intro w61 hS
  refine seq_do hA rfl rfl rfl (does_assign rfl) ?_
  intro a hA
  refine seq_end ?_
  refine hK54 _ _ ?_
  refine wp_seq_k (fun K62 hK62 => ?_)
  refine wp_region_lit ?_
  refine seq_do (v := .agg #[.bool p.b1, .slice a1 p.t1.length ac1, .slice a2 p.q1.length ac2, .bool p.b2, .slice a3 p.t2.length ac3, .slice a4 p.q2.length ac4]) hA rfl rfl rfl (does_loadS hS isS_26 rfl 8 rfl (cs := [.bool p.b1, .slice a1 p.t1.length ac1, .slice a2 p.q1.length ac2, .bool p.b2, .slice a3 p.t2.length ac3, .slice a4 p.q2.length ac4]) rfl rfl) ?_
  intro a hA
  refine seq_call hA rfl rfl rfl (enters_func  rfl rfl (fun w => by kernel_rfl)) (notR_any (show Nm _ p a1 ac1 a2 ac2 a3 ac3 a4 ac4 from ⟨⟨(hS.rd 35 rfl), ha.s1.nil, ha.s1.cap⟩, ⟨(hS.rd 34 rfl), ha.s2.nil, ha.s2.cap⟩, ⟨(hS.rd 33 rfl), ha.s3.nil, ha.s3.cap⟩, ⟨(hS.rd 32 rfl), ha.s4.nil, ha.s4.cap⟩⟩) hl) ?_
  rintro _ w66 ⟨p63_1, p63_c1, p63_2, p63_c2, p63_3, p63_c3, p63_4, p63_c4, rfl, hn64, hb65⟩
  replace hS := hS.call hb65
  replace hS := hS.addR hn64.s1.rd
  replace hS := hS.addR hn64.s2.rd
  replace hS := hS.addR hn64.s3.rd
  replace hS := hS.addR hn64.s4.rd
  refine ⟨_, rfl, ?_⟩
  intro a hA
  refine seq_do hA rfl rfl rfl (does_move rfl) ?_
  intro a hA
  refine seq_do (v := .agg #[.bool ((notQ p).1.b1), .slice p63_1 (((notQ p).1.t1).length) p63_c1, .slice p63_2 (((notQ p).1.q1).length) p63_c2, .bool ((notQ p).1.b2), .slice p63_3 (((notQ p).1.t2).length) p63_c3, .slice p63_4 (((notQ p).1.q2).length) p63_c4]) hA rfl rfl rfl (does_extract (vs := [.agg #[.bool ((notQ p).1.b1), .slice p63_1 (((notQ p).1.t1).length) p63_c1, .slice p63_2 (((notQ p).1.q1).length) p63_c2, .bool ((notQ p).1.b2), .slice p63_3 (((notQ p).1.t2).length) p63_c3, .slice p63_4 (((notQ p).1.q2).length) p63_c4], .int .i64 ((notQ p).2)]) rfl rfl) ?_
  intro a hA
  refine seq_do (v := .int .i64 ((notQ p).2)) hA rfl rfl rfl (does_extract (vs := [.agg #[.bool ((notQ p).1.b1), .slice p63_1 (((notQ p).1.t1).length) p63_c1, .slice p63_2 (((notQ p).1.q1).length) p63_c2, .bool ((notQ p).1.b2), .slice p63_3 (((notQ p).1.t2).length) p63_c3, .slice p63_4 (((notQ p).1.q2).length) p63_c4], .int .i64 ((notQ p).2)]) rfl rfl) ?_
  intro a hA
  refine seq_new (vs := [.bool false, .slice none 0 0, .slice none 0 0, .bool false, .slice none 0 0, .slice none 0 0]) (t := 26) hA hS rfl rfl rfl (fun g => .pointer (some ⟨g, 0, none⟩)) (does_alloc (z := .agg #[.bool false, .slice none 0 0, .slice none 0 0, .bool false, .slice none 0 0, .slice none 0 0]) (by kernel_rfl) rfl) rfl ?_
  intro g67 w68 hS a hA
  refine seq_store (us := [.bool ((notQ p).1.b1), .slice p63_1 (((notQ p).1.t1).length) p63_c1, .slice p63_2 (((notQ p).1.q1).length) p63_c2, .bool ((notQ p).1.b2), .slice p63_3 (((notQ p).1.t2).length) p63_c3, .slice p63_4 (((notQ p).1.q2).length) p63_c4]) hA hS rfl rfl (sets_store (cs := [.bool ((notQ p).1.b1), .slice p63_1 (((notQ p).1.t1).length) p63_c1, .slice p63_2 (((notQ p).1.q1).length) p63_c2, .bool ((notQ p).1.b2), .slice p63_3 (((notQ p).1.t2).length) p63_c3, .slice p63_4 (((notQ p).1.q2).length) p63_c4]) rfl rfl rfl (by kernel_rfl) hS 0 rfl rfl rfl) 0 rfl rfl rfl rfl ?_
  intro w69 hS
  refine seq_do hA rfl rfl rfl (does_assign rfl) ?_
  intro a hA
  refine seq_end ?_
  refine hK62 _ _ ?_
  refine wp_seq_k (fun K70 hK70 => ?_)
  refine wp_region_lit ?_
  refine seq_call hA rfl rfl rfl (enters_func  rfl rfl (fun w => by kernel_rfl)) (awake4_any) ?_
  rintro _ w72 ⟨rfl, hb71⟩
  replace hS := hS.call hb71
  refine ⟨_, rfl, ?_⟩
  intro a hA
  refine seq_do hA rfl rfl rfl (does_move rfl) ?_
  intro a hA
  refine seq_do (v := .agg #[.bool ((bitQ (fun x y => x &&& y) (fun b c => b && c) p q).1.b1), .slice p7_1 (((bitQ (fun x y => x &&& y) (fun b c => b && c) p q).1.t1).length) p7_c1, .slice p7_2 (((bitQ (fun x y => x &&& y) (fun b c => b && c) p q).1.q1).length) p7_c2, .bool ((bitQ (fun x y => x &&& y) (fun b c => b && c) p q).1.b2), .slice p7_3 (((bitQ (fun x y => x &&& y) (fun b c => b && c) p q).1.t2).length) p7_c3, .slice p7_4 (((bitQ (fun x y => x &&& y) (fun b c => b && c) p q).1.q2).length) p7_c4]) hA rfl rfl rfl (does_loadS hS isS_26 rfl 7 rfl (cs := [.bool ((bitQ (fun x y => x &&& y) (fun b c => b && c) p q).1.b1), .slice p7_1 (((bitQ (fun x y => x &&& y) (fun b c => b && c) p q).1.t1).length) p7_c1, .slice p7_2 (((bitQ (fun x y => x &&& y) (fun b c => b && c) p q).1.q1).length) p7_c2, .bool ((bitQ (fun x y => x &&& y) (fun b c => b && c) p q).1.b2), .slice p7_3 (((bitQ (fun x y => x &&& y) (fun b c => b && c) p q).1.t2).length) p7_c3, .slice p7_4 (((bitQ (fun x y => x &&& y) (fun b c => b && c) p q).1.q2).length) p7_c4]) rfl rfl) ?_
  intro a hA
  refine seq_do (v := .agg #[.bool ((bitQ (fun x y => x &&& y) (fun b c => b && c) p q).1.b1), .slice p15_1 (((bitQ (fun x y => x &&& y) (fun b c => b && c) p q).1.t1).length) p15_c1, .slice p15_2 (((bitQ (fun x y => x &&& y) (fun b c => b && c) p q).1.q1).length) p15_c2, .bool ((bitQ (fun x y => x &&& y) (fun b c => b && c) p q).1.b2), .slice p15_3 (((bitQ (fun x y => x &&& y) (fun b c => b && c) p q).1.t2).length) p15_c3, .slice p15_4 (((bitQ (fun x y => x &&& y) (fun b c => b && c) p q).1.q2).length) p15_c4]) hA rfl rfl rfl (does_loadS hS isS_26 rfl 6 rfl (cs := [.bool ((bitQ (fun x y => x &&& y) (fun b c => b && c) p q).1.b1), .slice p15_1 (((bitQ (fun x y => x &&& y) (fun b c => b && c) p q).1.t1).length) p15_c1, .slice p15_2 (((bitQ (fun x y => x &&& y) (fun b c => b && c) p q).1.q1).length) p15_c2, .bool ((bitQ (fun x y => x &&& y) (fun b c => b && c) p q).1.b2), .slice p15_3 (((bitQ (fun x y => x &&& y) (fun b c => b && c) p q).1.t2).length) p15_c3, .slice p15_4 (((bitQ (fun x y => x &&& y) (fun b c => b && c) p q).1.q2).length) p15_c4]) rfl rfl) ?_
  intro a hA
  refine seq_call hA rfl rfl rfl (enters_func  rfl rfl (fun w => by kernel_rfl)) (alike_any (show Nm _ _ p7_1 p7_c1 p7_2 p7_c2 p7_3 p7_c3 p7_4 p7_c4 from ⟨⟨(hS.rd 31 rfl), hn8.s1.nil, hn8.s1.cap⟩, ⟨(hS.rd 30 rfl), hn8.s2.nil, hn8.s2.cap⟩, ⟨(hS.rd 29 rfl), hn8.s3.nil, hn8.s3.cap⟩, ⟨(hS.rd 28 rfl), hn8.s4.nil, hn8.s4.cap⟩⟩) (lenQ_bit _ _ _ _) (show Nm _ _ p15_1 p15_c1 p15_2 p15_c2 p15_3 p15_c3 p15_4 p15_c4 from ⟨⟨(hS.rd 27 rfl), hn16.s1.nil, hn16.s1.cap⟩, ⟨(hS.rd 26 rfl), hn16.s2.nil, hn16.s2.cap⟩, ⟨(hS.rd 25 rfl), hn16.s3.nil, hn16.s3.cap⟩, ⟨(hS.rd 24 rfl), hn16.s4.nil, hn16.s4.cap⟩⟩)) ?_
  rintro _ w74 ⟨rfl, hb73⟩
  replace hS := hS.call hb73
  refine ⟨_, rfl, ?_⟩
  intro a hA
  refine seq_do (v := .bool true) hA rfl rfl rfl (does_pick rfl rfl rfl rfl) ?_
  intro a hA
  refine seq_do hA rfl rfl rfl (does_move rfl) ?_
  intro a hA
  refine seq_do hA rfl rfl rfl (does_move rfl) ?_
  intro a hA
  refine seq_do hA rfl rfl rfl (does_move rfl) ?_
  intro a hA
  refine seq_do (v := .bool true) hA rfl rfl rfl (does_bin rfl rfl (fun w => (bin_eql w).trans (by rw [show (((bitQ (fun x y => x &&& y) (fun b c => b && c) p q).2 == (bitQ (fun x y => x &&& y) (fun b c => b && c) p q).2)) = true from beq_self_eq_true _]))) ?_
  intro a hA
  refine seq_do (v := .bool true) hA rfl rfl rfl (does_pick rfl rfl rfl rfl) ?_
  intro a hA
  refine seq_do hA rfl rfl rfl (does_move rfl) ?_
  intro a hA
  refine seq_do (v := .agg #[.bool ((bitQ (fun x y => x ||| y) (fun b c => b || c) p q).1.b1), .slice p23_1 (((bitQ (fun x y => x ||| y) (fun b c => b || c) p q).1.t1).length) p23_c1, .slice p23_2 (((bitQ (fun x y => x ||| y) (fun b c => b || c) p q).1.q1).length) p23_c2, .bool ((bitQ (fun x y => x ||| y) (fun b c => b || c) p q).1.b2), .slice p23_3 (((bitQ (fun x y => x ||| y) (fun b c => b || c) p q).1.t2).length) p23_c3, .slice p23_4 (((bitQ (fun x y => x ||| y) (fun b c => b || c) p q).1.q2).length) p23_c4]) hA rfl rfl rfl (does_loadS hS isS_26 rfl 5 rfl (cs := [.bool ((bitQ (fun x y => x ||| y) (fun b c => b || c) p q).1.b1), .slice p23_1 (((bitQ (fun x y => x ||| y) (fun b c => b || c) p q).1.t1).length) p23_c1, .slice p23_2 (((bitQ (fun x y => x ||| y) (fun b c => b || c) p q).1.q1).length) p23_c2, .bool ((bitQ (fun x y => x ||| y) (fun b c => b || c) p q).1.b2), .slice p23_3 (((bitQ (fun x y => x ||| y) (fun b c => b || c) p q).1.t2).length) p23_c3, .slice p23_4 (((bitQ (fun x y => x ||| y) (fun b c => b || c) p q).1.q2).length) p23_c4]) rfl rfl) ?_
  intro a hA
  refine seq_do (v := .agg #[.bool ((bitQ (fun x y => x ||| y) (fun b c => b || c) p q).1.b1), .slice p31_1 (((bitQ (fun x y => x ||| y) (fun b c => b || c) p q).1.t1).length) p31_c1, .slice p31_2 (((bitQ (fun x y => x ||| y) (fun b c => b || c) p q).1.q1).length) p31_c2, .bool ((bitQ (fun x y => x ||| y) (fun b c => b || c) p q).1.b2), .slice p31_3 (((bitQ (fun x y => x ||| y) (fun b c => b || c) p q).1.t2).length) p31_c3, .slice p31_4 (((bitQ (fun x y => x ||| y) (fun b c => b || c) p q).1.q2).length) p31_c4]) hA rfl rfl rfl (does_loadS hS isS_26 rfl 4 rfl (cs := [.bool ((bitQ (fun x y => x ||| y) (fun b c => b || c) p q).1.b1), .slice p31_1 (((bitQ (fun x y => x ||| y) (fun b c => b || c) p q).1.t1).length) p31_c1, .slice p31_2 (((bitQ (fun x y => x ||| y) (fun b c => b || c) p q).1.q1).length) p31_c2, .bool ((bitQ (fun x y => x ||| y) (fun b c => b || c) p q).1.b2), .slice p31_3 (((bitQ (fun x y => x ||| y) (fun b c => b || c) p q).1.t2).length) p31_c3, .slice p31_4 (((bitQ (fun x y => x ||| y) (fun b c => b || c) p q).1.q2).length) p31_c4]) rfl rfl) ?_
  intro a hA
  refine seq_call hA rfl rfl rfl (enters_func  rfl rfl (fun w => by kernel_rfl)) (alike_any (show Nm _ _ p23_1 p23_c1 p23_2 p23_c2 p23_3 p23_c3 p23_4 p23_c4 from ⟨⟨(hS.rd 23 rfl), hn24.s1.nil, hn24.s1.cap⟩, ⟨(hS.rd 22 rfl), hn24.s2.nil, hn24.s2.cap⟩, ⟨(hS.rd 21 rfl), hn24.s3.nil, hn24.s3.cap⟩, ⟨(hS.rd 20 rfl), hn24.s4.nil, hn24.s4.cap⟩⟩) (lenQ_bit _ _ _ _) (show Nm _ _ p31_1 p31_c1 p31_2 p31_c2 p31_3 p31_c3 p31_4 p31_c4 from ⟨⟨(hS.rd 19 rfl), hn32.s1.nil, hn32.s1.cap⟩, ⟨(hS.rd 18 rfl), hn32.s2.nil, hn32.s2.cap⟩, ⟨(hS.rd 17 rfl), hn32.s3.nil, hn32.s3.cap⟩, ⟨(hS.rd 16 rfl), hn32.s4.nil, hn32.s4.cap⟩⟩)) ?_
  rintro _ w76 ⟨rfl, hb75⟩
  replace hS := hS.call hb75
  refine ⟨_, rfl, ?_⟩
  intro a hA
  refine seq_do (v := .bool true) hA rfl rfl rfl (does_pick rfl rfl rfl rfl) ?_
  intro a hA
  refine seq_do hA rfl rfl rfl (does_move rfl) ?_
  intro a hA
  refine seq_do hA rfl rfl rfl (does_move rfl) ?_
  intro a hA
  refine seq_do hA rfl rfl rfl (does_move rfl) ?_
  intro a hA
  refine seq_do (v := .bool true) hA rfl rfl rfl (does_bin rfl rfl (fun w => (bin_eql w).trans (by rw [show (((bitQ (fun x y => x ||| y) (fun b c => b || c) p q).2 == (bitQ (fun x y => x ||| y) (fun b c => b || c) p q).2)) = true from beq_self_eq_true _]))) ?_
  intro a hA
  refine seq_do (v := .bool true) hA rfl rfl rfl (does_pick rfl rfl rfl rfl) ?_
  intro a hA
  refine seq_do hA rfl rfl rfl (does_move rfl) ?_
  intro a hA
  refine seq_do (v := .agg #[.bool ((bitQ (fun x y => x ^^^ y) (fun b c => b != c) p q).1.b1), .slice p39_1 (((bitQ (fun x y => x ^^^ y) (fun b c => b != c) p q).1.t1).length) p39_c1, .slice p39_2 (((bitQ (fun x y => x ^^^ y) (fun b c => b != c) p q).1.q1).length) p39_c2, .bool ((bitQ (fun x y => x ^^^ y) (fun b c => b != c) p q).1.b2), .slice p39_3 (((bitQ (fun x y => x ^^^ y) (fun b c => b != c) p q).1.t2).length) p39_c3, .slice p39_4 (((bitQ (fun x y => x ^^^ y) (fun b c => b != c) p q).1.q2).length) p39_c4]) hA rfl rfl rfl (does_loadS hS isS_26 rfl 3 rfl (cs := [.bool ((bitQ (fun x y => x ^^^ y) (fun b c => b != c) p q).1.b1), .slice p39_1 (((bitQ (fun x y => x ^^^ y) (fun b c => b != c) p q).1.t1).length) p39_c1, .slice p39_2 (((bitQ (fun x y => x ^^^ y) (fun b c => b != c) p q).1.q1).length) p39_c2, .bool ((bitQ (fun x y => x ^^^ y) (fun b c => b != c) p q).1.b2), .slice p39_3 (((bitQ (fun x y => x ^^^ y) (fun b c => b != c) p q).1.t2).length) p39_c3, .slice p39_4 (((bitQ (fun x y => x ^^^ y) (fun b c => b != c) p q).1.q2).length) p39_c4]) rfl rfl) ?_
  intro a hA
  refine seq_do (v := .agg #[.bool ((bitQ (fun x y => x ^^^ y) (fun b c => b != c) p q).1.b1), .slice p47_1 (((bitQ (fun x y => x ^^^ y) (fun b c => b != c) p q).1.t1).length) p47_c1, .slice p47_2 (((bitQ (fun x y => x ^^^ y) (fun b c => b != c) p q).1.q1).length) p47_c2, .bool ((bitQ (fun x y => x ^^^ y) (fun b c => b != c) p q).1.b2), .slice p47_3 (((bitQ (fun x y => x ^^^ y) (fun b c => b != c) p q).1.t2).length) p47_c3, .slice p47_4 (((bitQ (fun x y => x ^^^ y) (fun b c => b != c) p q).1.q2).length) p47_c4]) hA rfl rfl rfl (does_loadS hS isS_26 rfl 2 rfl (cs := [.bool ((bitQ (fun x y => x ^^^ y) (fun b c => b != c) p q).1.b1), .slice p47_1 (((bitQ (fun x y => x ^^^ y) (fun b c => b != c) p q).1.t1).length) p47_c1, .slice p47_2 (((bitQ (fun x y => x ^^^ y) (fun b c => b != c) p q).1.q1).length) p47_c2, .bool ((bitQ (fun x y => x ^^^ y) (fun b c => b != c) p q).1.b2), .slice p47_3 (((bitQ (fun x y => x ^^^ y) (fun b c => b != c) p q).1.t2).length) p47_c3, .slice p47_4 (((bitQ (fun x y => x ^^^ y) (fun b c => b != c) p q).1.q2).length) p47_c4]) rfl rfl) ?_
  intro a hA
  refine seq_call hA rfl rfl rfl (enters_func  rfl rfl (fun w => by kernel_rfl)) (alike_any (show Nm _ _ p39_1 p39_c1 p39_2 p39_c2 p39_3 p39_c3 p39_4 p39_c4 from ⟨⟨(hS.rd 15 rfl), hn40.s1.nil, hn40.s1.cap⟩, ⟨(hS.rd 14 rfl), hn40.s2.nil, hn40.s2.cap⟩, ⟨(hS.rd 13 rfl), hn40.s3.nil, hn40.s3.cap⟩, ⟨(hS.rd 12 rfl), hn40.s4.nil, hn40.s4.cap⟩⟩) (lenQ_bit _ _ _ _) (show Nm _ _ p47_1 p47_c1 p47_2 p47_c2 p47_3 p47_c3 p47_4 p47_c4 from ⟨⟨(hS.rd 11 rfl), hn48.s1.nil, hn48.s1.cap⟩, ⟨(hS.rd 10 rfl), hn48.s2.nil, hn48.s2.cap⟩, ⟨(hS.rd 9 rfl), hn48.s3.nil, hn48.s3.cap⟩, ⟨(hS.rd 8 rfl), hn48.s4.nil, hn48.s4.cap⟩⟩)) ?_
  rintro _ w78 ⟨rfl, hb77⟩
  replace hS := hS.call hb77
  refine ⟨_, rfl, ?_⟩
  intro a hA
  refine seq_do (v := .bool true) hA rfl rfl rfl (does_pick rfl rfl rfl rfl) ?_
  intro a hA
  refine seq_do hA rfl rfl rfl (does_move rfl) ?_
  intro a hA
  refine seq_do hA rfl rfl rfl (does_move rfl) ?_
  intro a hA
  refine seq_do hA rfl rfl rfl (does_move rfl) ?_
  intro a hA
  refine seq_do (v := .bool true) hA rfl rfl rfl (does_bin rfl rfl (fun w => (bin_eql w).trans (by rw [show (((bitQ (fun x y => x ^^^ y) (fun b c => b != c) p q).2 == (bitQ (fun x y => x ^^^ y) (fun b c => b != c) p q).2)) = true from beq_self_eq_true _]))) ?_
  intro a hA
  refine seq_do (v := .bool true) hA rfl rfl rfl (does_pick rfl rfl rfl rfl) ?_
  intro a hA
  refine seq_do hA rfl rfl rfl (does_move rfl) ?_
  intro a hA
  refine seq_do (v := .agg #[.bool ((notQ p).1.b1), .slice p55_1 (((notQ p).1.t1).length) p55_c1, .slice p55_2 (((notQ p).1.q1).length) p55_c2, .bool ((notQ p).1.b2), .slice p55_3 (((notQ p).1.t2).length) p55_c3, .slice p55_4 (((notQ p).1.q2).length) p55_c4]) hA rfl rfl rfl (does_loadS hS isS_26 rfl 1 rfl (cs := [.bool ((notQ p).1.b1), .slice p55_1 (((notQ p).1.t1).length) p55_c1, .slice p55_2 (((notQ p).1.q1).length) p55_c2, .bool ((notQ p).1.b2), .slice p55_3 (((notQ p).1.t2).length) p55_c3, .slice p55_4 (((notQ p).1.q2).length) p55_c4]) rfl rfl) ?_
  intro a hA
  refine seq_do (v := .agg #[.bool ((notQ p).1.b1), .slice p63_1 (((notQ p).1.t1).length) p63_c1, .slice p63_2 (((notQ p).1.q1).length) p63_c2, .bool ((notQ p).1.b2), .slice p63_3 (((notQ p).1.t2).length) p63_c3, .slice p63_4 (((notQ p).1.q2).length) p63_c4]) hA rfl rfl rfl (does_loadS hS isS_26 rfl 0 rfl (cs := [.bool ((notQ p).1.b1), .slice p63_1 (((notQ p).1.t1).length) p63_c1, .slice p63_2 (((notQ p).1.q1).length) p63_c2, .bool ((notQ p).1.b2), .slice p63_3 (((notQ p).1.t2).length) p63_c3, .slice p63_4 (((notQ p).1.q2).length) p63_c4]) rfl rfl) ?_
  intro a hA
  refine seq_call hA rfl rfl rfl (enters_func  rfl rfl (fun w => by kernel_rfl)) (alike_any (show Nm _ _ p55_1 p55_c1 p55_2 p55_c2 p55_3 p55_c3 p55_4 p55_c4 from ⟨⟨(hS.rd 7 rfl), hn56.s1.nil, hn56.s1.cap⟩, ⟨(hS.rd 6 rfl), hn56.s2.nil, hn56.s2.cap⟩, ⟨(hS.rd 5 rfl), hn56.s3.nil, hn56.s3.cap⟩, ⟨(hS.rd 4 rfl), hn56.s4.nil, hn56.s4.cap⟩⟩) (lenQ_not p) (show Nm _ _ p63_1 p63_c1 p63_2 p63_c2 p63_3 p63_c3 p63_4 p63_c4 from ⟨⟨(hS.rd 3 rfl), hn64.s1.nil, hn64.s1.cap⟩, ⟨(hS.rd 2 rfl), hn64.s2.nil, hn64.s2.cap⟩, ⟨(hS.rd 1 rfl), hn64.s3.nil, hn64.s3.cap⟩, ⟨(hS.rd 0 rfl), hn64.s4.nil, hn64.s4.cap⟩⟩)) ?_
  rintro _ w80 ⟨rfl, hb79⟩
  replace hS := hS.call hb79
  refine ⟨_, rfl, ?_⟩
  intro a hA
  refine seq_do (v := .bool true) hA rfl rfl rfl (does_pick rfl rfl rfl rfl) ?_
  intro a hA
  refine seq_do hA rfl rfl rfl (does_move rfl) ?_
  intro a hA
  refine seq_do hA rfl rfl rfl (does_move rfl) ?_
  intro a hA
  refine seq_do hA rfl rfl rfl (does_move rfl) ?_
  intro a hA
  refine seq_do (v := .bool true) hA rfl rfl rfl (does_bin rfl rfl (fun w => (bin_eql w).trans (by rw [show (((notQ p).2 == (notQ p).2)) = true from beq_self_eq_true _]))) ?_
  intro a hA
  refine seq_do (v := .bool true) hA rfl rfl rfl (does_pick rfl rfl rfl rfl) ?_
  intro a hA
  refine seq_do hA rfl rfl rfl (does_assign rfl) ?_
  intro a hA
  refine seq_end ?_
  refine hK70 _ _ ?_
  refine wp_ret ?_
  refine hret _ _ ?_
  refine ends (v := .bool true) hA rfl (.cons (res_tmp rfl) .nil) rfl ?_
  exact ⟨rfl, hS.bel⟩
end Go.Proofs.Yteghiinbafbokaa
namespace Go.Proofs.Yteghiinbafbokaa
open Go.RowKit
set_option linter.unusedVariables false
set_option linter.unusedSimpArgs false

/-- The bit k of a row without end. -/
def tbit (b : Bool) (y k : Nat) : Nat := (y.testBit k ^^ b).toNat
theorem tbit_le (b : Bool) (y k : Nat) : tbit b y k ≤ 1 := Bool.toNat_le _
/-- The bits from s on, so many, as a number. -/
def fld (b : Bool) (y s : Nat) : Nat → Nat
  | 0 => 0
  | c + 1 => fld b y s c + tbit b y (s + c) * 2 ^ c
theorem fld_lt (b : Bool) (y s : Nat) : ∀ c, fld b y s c < 2 ^ c
  | 0 => by simp [fld]
  | c + 1 => by
    have h1 := fld_lt b y s c
    have h2 := tbit_le b y (s + c)
    have h3 : tbit b y (s + c) * 2 ^ c ≤ 1 * 2 ^ c := Nat.mul_le_mul_right _ h2
    unfold fld
    rw [Nat.pow_succ]
    omega
theorem fld_down (b : Bool) (y s : Nat) : ∀ c, fld b (y / 2 ^ s) 0 c = fld b y s c
  | 0 => rfl
  | c + 1 => by
    unfold fld
    rw [fld_down b y s c]
    unfold tbit
    rw [Nat.zero_add, Nat.testBit_div_two_pow, Nat.add_comm c s]
/-- A number's lowest bits are told by its bits. -/
theorem mod_bits {X b y : Nat} {B : Bool} : ∀ c, (∀ k, k < c → X / 2 ^ k % 2 = tbit B y k) → X % 2 ^ c = fld B y 0 c
  | 0, _ => by simp [fld, Nat.mod_one]
  | c + 1, h => by
    have ih := mod_bits (X := X) (b := b) c (fun k hk => h k (by omega))
    have e := h c (by omega)
    unfold fld
    rw [Nat.zero_add, ← e, ← ih, Nat.pow_succ, Nat.mod_mul, Nat.mul_comm (X / 2 ^ c % 2)]
theorem rwd_bit {b : Bool} {y J r : Nat} (hr : r < 32) : rwd b y J / 2 ^ r % 2 = tbit b y (32 * J + r) := by
  rw [← Nat.toNat_testBit]
  unfold tbit rwd
  rw [Nat.testBit_xor]
  have e1 : (y / pw J % 4294967296).testBit r = y.testBit (32 * J + r) := by
    rw [show (4294967296 : Nat) = 2 ^ 32 from rfl, Nat.testBit_mod_two_pow, pw_two, Nat.testBit_div_two_pow, Nat.add_comm r]
    simp [hr]
  have e2 : (b.toNat * 4294967295).testBit r = b := by
    cases b with
    | false => simp
    | true =>
      show (1 * 4294967295).testBit r = true
      rw [Nat.one_mul, show (4294967295 : Nat) = 2 ^ 32 - 1 from rfl, Nat.testBit_two_pow_sub_one]
      simp [hr]
  rw [e1, e2]
/-- A bit of a list of words. -/
theorem val_bit {l : List Nat} (hd : Dig l) (k : Nat) : val l / 2 ^ k % 2 = l.getD (k / 32) 0 / 2 ^ (k % 32) % 2 := by
  have h1 : l.getD (k / 32) 0 = val l / pw (k / 32) % 4294967296 := by
    have h2 := val_split l (k / 32)
    by_cases hk : k / 32 < l.length
    · have hm : min (k / 32) l.length = k / 32 := by omega
      rw [hm] at h2
      have h3 : val (l.take (k / 32)) < pw (k / 32) := by
        have := val_lt (hd.take (k / 32))
        rwa [List.length_take, hm] at this
      have h4 : val l / pw (k / 32) = val (l.drop (k / 32)) := by
        rw [h2, Nat.add_mul_div_left _ _ (pw_pos _), Nat.div_eq_of_lt h3, Nat.zero_add]
      rw [h4, List.drop_eq_getElem_cons hk, val_cons, Nat.add_mul_mod_self_left, Nat.mod_eq_of_lt (hd _ (List.getElem_mem hk))]
      simp [hk]
    · have : val l < pw (k / 32) := Nat.lt_of_lt_of_le (val_lt hd) (pw_le (by omega))
      rw [Nat.div_eq_of_lt this]
      simp [List.getD_eq_getElem?_getD, List.getElem?_eq_none (by omega : l.length ≤ k / 32)]
  rw [h1, ← Nat.toNat_testBit, ← Nat.toNat_testBit, show (4294967296 : Nat) = 2 ^ 32 from rfl, Nat.testBit_mod_two_pow, pw_two, Nat.testBit_div_two_pow]
  have e : k % 32 + 32 * (k / 32) = k := by omega
  rw [e]
  have : k % 32 < 32 := Nat.mod_lt _ (by decide)
  simp [this]
theorem rowL_bit {b : Bool} {y n k : Nat} (h : k / 32 < n) : (rowL b y n).getD (k / 32) 0 / 2 ^ (k % 32) % 2 = tbit b y k := by
  rw [rowL_get h, rwd_bit (Nat.mod_lt _ (by decide))]
  congr 1
  omega
theorem rowL_mod {b : Bool} {y n c : Nat} (h : c ≤ 32 * n) : val (rowL b y n) % 2 ^ c = fld b y 0 c :=
  mod_bits (b := 0) c (fun k hk => by rw [val_bit (rowL_dig _ _ _), rowL_bit (by omega)])
/-- The last word cut down. -/
theorem mask_val {l : List Nat} {n r : Nat} (hd : Dig l) (hl : l.length = n + 1) : val (l.set n (l.getD n 0 &&& (2 ^ r - 1))) = val l % (pw n * 2 ^ r) := by
  have e : l.getD n 0 &&& (2 ^ r - 1) = l.getD n 0 % 2 ^ r := Nat.and_two_pow_sub_one_eq_mod _ _
  have h1 : val l = val (l.take n) + pw n * l.getD n 0 := by
    have := val_take_succ l n
    rwa [List.take_of_length_le (by omega)] at this
  have h2 : val (l.set n (l.getD n 0 % 2 ^ r)) = val (l.take n) + pw n * (l.getD n 0 % 2 ^ r) := by
    have := val_set_take l n (l.getD n 0 % 2 ^ r) (by omega)
    rwa [List.take_of_length_le (by rw [List.length_set]; omega)] at this
  have h3 : val (l.take n) < pw n := by
    have := val_lt (hd.take n)
    rwa [List.length_take, Nat.min_eq_left (by omega)] at this
  rw [e, h2, Nat.mod_mul, h1, Nat.add_mul_mod_self_left, Nat.mod_eq_of_lt h3, Nat.add_mul_div_left _ _ (pw_pos _), Nat.div_eq_of_lt h3, Nat.zero_add]
/-- A number's words, in a list of a given length. -/
def Pads (F n : Nat) (l : List Nat) : Prop := l.length = n ∧ ∀ j, l.getD j 0 = F / pw j % 4294967296
theorem Pads.start (n : Nat) : Pads 0 n (List.replicate n 0) := ⟨by simp, fun j => by simp [List.getD_eq_getElem?_getD, List.getElem?_replicate]; split <;> rfl⟩
theorem Pads.step {F n k t : Nat} {l : List Nat} (h : Pads F n l) (hF : F < 2 ^ k) (ht : t ≤ 1) (hk : k / 32 < n) : Pads (F + t * 2 ^ k) n (l.set (k / 32) (l.getD (k / 32) 0 ||| t * 2 ^ (k % 32))) := by
  have hk2 : 2 ^ k = pw (k / 32) * 2 ^ (k % 32) := by rw [pw_two, ← Nat.pow_add]; congr 1; omega
  have hr : 2 ^ (k % 32) ≤ 2 ^ 31 := Nat.pow_le_pow_right (by omega) (by omega)
  have hq : F / pw (k / 32) < 2 ^ (k % 32) := by
    rw [Nat.div_lt_iff_lt_mul (pw_pos _), Nat.mul_comm, ← hk2]
    exact hF
  have hold : l.getD (k / 32) 0 = F / pw (k / 32) := by
    rw [h.2, Nat.mod_eq_of_lt (by omega)]
  refine ⟨by rw [List.length_set]; exact h.1, fun j => ?_⟩
  rw [getD_set _ _ _ _ (by rw [h.1]; exact hk)]
  by_cases e : k / 32 = j
  · subst e
    have h8 : t * 2 ^ (k % 32) ≤ 1 * 2 ^ (k % 32) := Nat.mul_le_mul_right _ ht
    have h9 : (2 : Nat) ^ 31 = 2147483648 := rfl
    have e1 : (F / pw (k / 32) ||| t * 2 ^ (k % 32)) = t * 2 ^ (k % 32) + F / pw (k / 32) := by
      rw [Nat.or_comm]
      exact or_add t (F / pw (k / 32)) (k % 32) hq
    have e2 : (F + t * 2 ^ k) / pw (k / 32) = F / pw (k / 32) + t * 2 ^ (k % 32) := by
      rw [hk2, Nat.mul_left_comm t, Nat.add_mul_div_left _ _ (pw_pos _)]
    rw [if_pos rfl, hold, e1, e2, Nat.mod_eq_of_lt (show F / pw (k / 32) + t * 2 ^ (k % 32) < 4294967296 from by omega), Nat.add_comm]
  · rw [if_neg e, h.2]
    by_cases hlt : j < k / 32
    · have : 2 ^ k = pw j * (4294967296 * (pw (k / 32 - j - 1) * 2 ^ (k % 32))) := by
        rw [hk2, show k / 32 = j + (1 + (k / 32 - j - 1)) by omega, pw_add, pw_add]
        have : pw 1 = 4294967296 := by rw [pw_succ, pw_zero]
        rw [this, Nat.mul_assoc, Nat.mul_assoc]
        congr 3
        congr 1
        omega
      rw [this, Nat.mul_left_comm t, Nat.add_mul_div_left _ _ (pw_pos _), Nat.mul_left_comm t, Nat.add_mul_mod_self_left]
    · have h1 : pw (k / 32 + 1) ≤ pw j := pw_le (by omega)
      rw [pw_succ] at h1
      have h2 : F + t * 2 ^ k < pw j := by
        have : t * 2 ^ k ≤ 1 * 2 ^ k := Nat.mul_le_mul_right _ ht
        have h3 : 2 ^ k ≤ pw (k / 32) * 2 ^ 31 := by rw [hk2]; exact Nat.mul_le_mul_left _ hr
        have : (2 : Nat) ^ 31 = 2147483648 := rfl
        omega
      rw [Nat.div_eq_of_lt h2, Nat.div_eq_of_lt (by omega)]
theorem Pads.val_eq {F n : Nat} {l : List Nat} (h : Pads F n l) (hd : Dig l) (hF : F < pw n) : val l = F := by
  have e : words (val l) = words F := by
    apply top_inj (words_dig _) (words_top _) (words_dig _) (words_top _)
    rw [val_words, val_words]
    apply Nat.eq_of_testBit_eq
    intro k
    have h1 := val_bit hd k
    rw [h.2] at h1
    have h2 := val_bit (words_dig F) k
    rw [val_words, words_getD] at h2
    have h3 : val l / 2 ^ k % 2 = F / 2 ^ k % 2 := by rw [h1, h2]
    rw [← Nat.toNat_testBit, ← Nat.toNat_testBit] at h3
    cases h5 : (val l).testBit k <;> cases h6 : F.testBit k <;> simp_all
  exact words_inj e
def fieldQ (q : Q6) (s e : Int) : Q6 × Int :=
  if want1 q = 0 then (if s < 0 ∨ e < s ∨ 16384 < e then (Q6.zero, 1) else (Q6.whole false (fld q.b1 (val q.t1 - q.b1.toNat) s.toNat (e - s).toNat), 0)) else (Q6.zero, want1 q)
theorem fieldQ_err {q : Q6} {s e : Int} (h : (want1 q != 0) = true) : fieldQ q s e = (Q6.zero, want1 q) := by unfold fieldQ; rw [if_neg (bne_iff_ne.1 h)]
theorem fieldQ_arg {b : Bool} {x : Nat} {s e : Int} (h : want1 (Q6.whole b x) = 0) (hn : s < 0 ∨ e < s ∨ 16384 < e) : fieldQ (Q6.whole b x) s e = (Q6.zero, 1) := by unfold fieldQ; rw [if_pos h, if_pos hn]
theorem fieldQ_ok {b : Bool} {x S E : Nat} (h : want1 (Q6.whole b x) = 0) (h1 : S ≤ E) (h2 : E ≤ 16384) : fieldQ (Q6.whole b x) (S : Int) (E : Int) = (Q6.whole false (fld b (x - b.toNat) S (E - S)), 0) := by
  unfold fieldQ
  rw [if_pos h, if_neg (by omega)]
  simp only [Q6.whole, val_words, Int.toNat_natCast]
  rw [show ((E : Int) - (S : Int)).toNat = E - S from by omega]
theorem fld_len {b : Bool} {y s c : Nat} (h : c ≤ 16384) : (words (fld b y s c)).length ≤ 512 := by
  apply words_length_le
  have h1 := fld_lt b y s c
  have h2 : pw 512 = 2 ^ (32 * 512) := pw_two 512
  have h3 : c ≤ 32 * 512 := h
  generalize 32 * 512 = K at h2 h3
  rw [h2]
  exact Nat.lt_of_lt_of_le h1 (Nat.pow_le_pow_right (Nat.zero_lt_succ 1) h3)
section
variable {P : Program} {t : TypeId} {a b : Operand}
theorem bin_quo {n : Nat} (hn : n ≤ 1000000000) : ∀ w, (do eqGuard .quo t a b (.int .i64 ((n : Nat) : Int)) (.int .i64 32); binOp .quo t (.int .i64 ((n : Nat) : Int)) (.int .i64 32) : Sem Value).run P w = .ok (.int .i64 ((n / 32 : Nat) : Int)) w := fun w => by
  have e : ((n : Nat) : Int).tdiv 32 = ((n / 32 : Nat) : Int) := by rw [Int.tdiv_eq_ediv_of_nonneg (by omega)]; omega
  have h := i64In (a := ((n / 32 : Nat) : Int)) (by omega) (by omega)
  rw [show ((n / 32 : Nat) : Int) = ((n : Nat) : Int) / 32 from by omega] at h
  simp [go_sem, e, h]
theorem bin_rem {n : Nat} (hn : n ≤ 1000000000) : ∀ w, (do eqGuard .rem t a b (.int .i64 ((n : Nat) : Int)) (.int .i64 32); binOp .rem t (.int .i64 ((n : Nat) : Int)) (.int .i64 32) : Sem Value).run P w = .ok (.int .i64 ((n % 32 : Nat) : Int)) w := fun w => by
  have e : ((n : Nat) : Int).tmod 32 = ((n % 32 : Nat) : Int) := by rw [Int.tmod_eq_emod_of_nonneg (by omega)]; omega
  have h := i64In (a := ((n % 32 : Nat) : Int)) (by omega) (by omega)
  simp [go_sem, e, h]
theorem bin_shr64 {x k : Nat} (hx : x < 4294967296) (hk : k < 32) : ∀ w, (do eqGuard .shr t a b (.int .u64 ((x : Nat) : Int)) (.int .i64 ((k : Nat) : Int)); binOp .shr t (.int .u64 ((x : Nat) : Int)) (.int .i64 ((k : Nat) : Int)) : Sem Value).run P w = .ok (.int .u64 ((x / 2 ^ k : Nat) : Int)) w := fun w => by
  have h : ¬ ((k : Nat) : Int) < 0 := by omega
  simp [go_sem, h]
theorem conv_64 {s d : TypeId} {m : Nat} (hs : P.underlying s = some (.int .u64)) (hd : P.underlying d = some (.int .u32)) (hm : m < 4294967296) : ∀ w, (convert s d (.int .u64 ((m : Nat) : Int))).run P w = .ok (.int .u32 ((m : Nat) : Int)) w := fun w => by
  have := wrap_u32 m hm
  simp [convert, run_underlying hs, run_underlying hd, go_sem, this]
theorem bin_and1 {x : Nat} (hx : x < 4294967296) : ∀ w, (do eqGuard .and t a b (.int .u32 ((x : Nat) : Int)) (.int .u32 1); binOp .and t (.int .u32 ((x : Nat) : Int)) (.int .u32 1) : Sem Value).run P w = .ok (.int .u32 ((x % 2 : Nat) : Int)) w := fun w => by
  have h := bin_and (P := P) (t := t) (a := a) (b := b) (x := x) (y := 1) hx (by decide) w
  rw [and_one] at h
  exact h
theorem bin_shl {x k : Nat} (hx : x ≤ 1) (hk : k < 32) : ∀ w, (do eqGuard .shl t a b (.int .u32 ((x : Nat) : Int)) (.int .i64 ((k : Nat) : Int)); binOp .shl t (.int .u32 ((x : Nat) : Int)) (.int .i64 ((k : Nat) : Int)) : Sem Value).run P w = .ok (.int .u32 ((x * 2 ^ k : Nat) : Int)) w := fun w => by
  have h : ¬ ((k : Nat) : Int) < 0 := by omega
  have h1 : x * 2 ^ k < 4294967296 := by
    have h2 : x * 2 ^ k ≤ 1 * 2 ^ k := Nat.mul_le_mul_right _ hx
    have h3 : 2 ^ k ≤ 2 ^ 31 := Nat.pow_le_pow_right (by decide) (by omega)
    have h4 : (2 : Nat) ^ 31 = 2147483648 := rfl
    omega
  have h5 := wrap_u32 (x * 2 ^ k) h1
  rw [Int.natCast_mul, Int.natCast_pow] at h5
  simp only [Int.cast_ofNat_Int] at h5
  simp [go_sem, h, h5]
theorem bin_subU {k : Nat} (hk : k < 32) : ∀ w, (do eqGuard .sub t a b (.int .u32 ((1 * 2 ^ k : Nat) : Int)) (.int .u32 1); binOp .sub t (.int .u32 ((1 * 2 ^ k : Nat) : Int)) (.int .u32 1) : Sem Value).run P w = .ok (.int .u32 ((2 ^ k - 1 : Nat) : Int)) w := fun w => by
  have h3 : 2 ^ k ≤ 2 ^ 31 := Nat.pow_le_pow_right (by decide) (by omega)
  have h4 : (2 : Nat) ^ 31 = 2147483648 := rfl
  have hp : 0 < 2 ^ k := Nat.pow_pos (by decide)
  have e : ((1 * 2 ^ k : Nat) : Int) - 1 = ((2 ^ k - 1 : Nat) : Int) := by omega
  have h5 := wrap_u32 (2 ^ k - 1) (by omega)
  rw [← e] at h5
  rw [bin_sub h5, e]
end
end Go.Proofs.Yteghiinbafbokaa
