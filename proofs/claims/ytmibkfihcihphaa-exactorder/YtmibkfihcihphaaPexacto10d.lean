/- Walks of DivMod. Quotient and rest of real numbers. DivMod of any numbers. Facts of the order of real numbers. -/
import Derived.Test.YtmibkfihcihphaaPexacto10c
import Derived.Test.YtmibkfihcihphaaPexacto10b
namespace Go.Proofs.Ytmibkfihcihphaa
open Go.RowKit
set_option linter.unusedVariables false
set_option linter.unusedSimpArgs false
set_option maxRecDepth 100000
theorem ExR_isS_26 : IsS Try.prog 26 6 := ⟨⟨_, Try.underlying26⟩, by kernel_rfl⟩
theorem ExR_isS_48 : IsS Try.prog 48 5 := ⟨⟨_, Try.underlying48⟩, by kernel_rfl⟩
theorem zdivmod_as {w : World} {x1 y1 x2 y2 : Int} {d1 d2 : Nat} {a1 a2 a3 : Option Addr} {ac1 ac2 ac3 : Nat} (ha1 : Sc w a1 ac1 (words x1.natAbs)) (ha2 : Sc w a2 ac2 (words y1.natAbs)) (ha3 : Sc w a3 ac3 (words d1)) {u1 u2 u3 : Option Addr} {uc1 uc2 uc3 : Nat} (hu1 : Sc w u1 uc1 (words x2.natAbs)) (hu2 : Sc w u2 uc2 (words y2.natAbs)) (hu3 : Sc w u3 uc3 (words d2)) (la1 : (words x1.natAbs).length ≤ 10000) (la2 : (words y1.natAbs).length ≤ 10000) (la3 : (words d1).length ≤ 10000) (lu1 : (words x2.natAbs).length ≤ 10000) (lu2 : (words y2.natAbs).length ≤ 10000) (lu3 : (words d2).length ≤ 10000) (h1 : d1 ≠ 0) (h2 : x2 ≠ 0) {T : Int} {R D : Nat} (hT : dmT x1 x2 d1 d2 = T) (hR : dmR x1 x2 d1 d2 = R) (hD : d1 * d2 = D) : Calls Try.prog 33 #[.agg #[.bool (rb x1), .slice a1 (words x1.natAbs).length ac1, .bool (rb y1), .slice a2 (words y1.natAbs).length ac2, .slice a3 (words d1).length ac3], .agg #[.bool (rb x2), .slice u1 (words x2.natAbs).length uc1, .bool (rb y2), .slice u2 (words y2.natAbs).length uc2, .slice u3 (words d2).length uc3]] w (AnsRR w T 1 ((R : Nat) : Int) D) := by
  subst hT hR hD
  exact zdivmod_any ha1 ha2 ha3 hu1 hu2 hu3 la1 la2 la3 lu1 lu2 lu3 h1 h2
theorem dmE_any {w : World} {p q : Q6} {a1 a2 a3 a4 : Option Addr} {ac1 ac2 ac3 ac4 : Nat} (ha : Nm w p a1 ac1 a2 ac2 a3 ac3 a4 ac4) (hl : LenQ p) {u1 u2 u3 u4 : Option Addr} {uc1 uc2 uc3 uc4 : Nat} (hb : Nm w q u1 uc1 u2 uc2 u3 uc3 u4 uc4) (hm : LenQ q) (hw : (wantR2 p q != 0) = true) : Calls Try.prog 10 #[numV p a1 ac1 a2 ac2 a3 ac3 a4 ac4, numV q u1 uc1 u2 uc2 u3 uc3 u4 uc4] w (AnsNN w (Q6.zero, Q6.zero, wantR2 p q)) := by
  have hS : St w w [] [(u4, q.q2), (u3, q.t2), (u2, q.q1), (u1, q.t1), (a4, p.q2), (a3, p.t2), (a2, p.q1), (a1, p.t1)] [] := ((((((((St.start w).addR ha.s1.rd).addR ha.s2.rd).addR ha.s3.rd).addR ha.s4.rd).addR hb.s1.rd).addR hb.s2.rd).addR hb.s3.rd).addR hb.s4.rd
  refine walk_of (l := [(0, .agg #[.bool p.b1, .slice a1 p.t1.length ac1, .slice a2 p.q1.length ac2, .bool p.b2, .slice a3 p.t2.length ac3, .slice a4 p.q2.length ac4]), (1, .agg #[.bool q.b1, .slice u1 q.t1.length uc1, .slice u2 q.q1.length uc2, .bool q.b2, .slice u3 q.t2.length uc3, .slice u4 q.q2.length uc4])]) Try.func10 rfl Try.ntmps10 rfl rfl ?_
  intro Q hret hnorm hP a hA
  refine wp_seq_k (fun K1 hK1 => ?_)
  refine wp_region_lit ?_
  refine seq_new (vs := [.bool p.b1, .slice a1 p.t1.length ac1, .slice a2 p.q1.length ac2, .bool p.b2, .slice a3 p.t2.length ac3, .slice a4 p.q2.length ac4]) (t := 26) hA hS rfl rfl rfl (fun g => .pointer (some ⟨g, 0, none⟩)) (does_box rfl rfl) rfl ?_
  intro g2 w3 hS a hA
  refine seq_new (vs := [.bool q.b1, .slice u1 q.t1.length uc1, .slice u2 q.q1.length uc2, .bool q.b2, .slice u3 q.t2.length uc3, .slice u4 q.q2.length uc4]) (t := 26) hA hS rfl rfl rfl (fun g => .pointer (some ⟨g, 0, none⟩)) (does_box rfl rfl) rfl ?_
  intro g4 w5 hS a hA
  refine seq_new (vs := [.bool false, .slice none 0 0, .slice none 0 0, .bool false, .slice none 0 0, .slice none 0 0]) (t := 26) hA hS rfl rfl rfl (fun g => .pointer (some ⟨g, 0, none⟩)) (does_alloc (z := .agg #[.bool false, .slice none 0 0, .slice none 0 0, .bool false, .slice none 0 0, .slice none 0 0]) (by kernel_rfl) rfl) rfl ?_
  intro g6 w7 hS a hA
  refine seq_new (vs := [.bool false, .slice none 0 0, .slice none 0 0, .bool false, .slice none 0 0, .slice none 0 0]) (t := 26) hA hS rfl rfl rfl (fun g => .pointer (some ⟨g, 0, none⟩)) (does_alloc (z := .agg #[.bool false, .slice none 0 0, .slice none 0 0, .bool false, .slice none 0 0, .slice none 0 0]) (by kernel_rfl) rfl) rfl ?_
  intro g8 w9 hS a hA
  refine seq_do hA rfl rfl rfl (does_assign rfl) ?_
  intro a hA
  refine seq_end ?_
  refine hK1 _ _ ?_
  refine wp_seq_k (fun K10 hK10 => ?_)
  refine wp_seq_k (fun K11 hK11 => ?_)
  refine wp_region_lit ?_
  refine seq_do (v := .agg #[.bool p.b1, .slice a1 p.t1.length ac1, .slice a2 p.q1.length ac2, .bool p.b2, .slice a3 p.t2.length ac3, .slice a4 p.q2.length ac4]) hA rfl rfl rfl (does_loadS hS ExR_isS_26 rfl 3 rfl (cs := [.bool p.b1, .slice a1 p.t1.length ac1, .slice a2 p.q1.length ac2, .bool p.b2, .slice a3 p.t2.length ac3, .slice a4 p.q2.length ac4]) rfl rfl) ?_
  intro a hA
  refine seq_do (v := .agg #[.bool q.b1, .slice u1 q.t1.length uc1, .slice u2 q.q1.length uc2, .bool q.b2, .slice u3 q.t2.length uc3, .slice u4 q.q2.length uc4]) hA rfl rfl rfl (does_loadS hS ExR_isS_26 rfl 2 rfl (cs := [.bool q.b1, .slice u1 q.t1.length uc1, .slice u2 q.q1.length uc2, .bool q.b2, .slice u3 q.t2.length uc3, .slice u4 q.q2.length uc4]) rfl rfl) ?_
  intro a hA
  refine seq_new (vs := [.bool p.b1, .slice a1 p.t1.length ac1, .slice a2 p.q1.length ac2, .bool p.b2, .slice a3 p.t2.length ac3, .slice a4 p.q2.length ac4, .bool q.b1, .slice u1 q.t1.length uc1, .slice u2 q.q1.length uc2, .bool q.b2, .slice u3 q.t2.length uc3, .slice u4 q.q2.length uc4]) (t := 26) hA hS rfl rfl rfl (fun g => .slice (some ⟨g, 0, none⟩) 2 2) (does_buildSlice rfl (by kernel_rfl)) rfl ?_
  intro g12 w13 hS a hA
  refine seq_call hA rfl rfl rfl (enters_func  rfl rfl (fun w => by kernel_rfl)) (wantR2_any (show Nm _ p a1 ac1 a2 ac2 a3 ac3 a4 ac4 from ⟨⟨(hS.rd 7 rfl), ha.s1.nil, ha.s1.cap⟩, ⟨(hS.rd 6 rfl), ha.s2.nil, ha.s2.cap⟩, ⟨(hS.rd 5 rfl), ha.s3.nil, ha.s3.cap⟩, ⟨(hS.rd 4 rfl), ha.s4.nil, ha.s4.cap⟩⟩) hl (show Nm _ q u1 uc1 u2 uc2 u3 uc3 u4 uc4 from ⟨⟨(hS.rd 3 rfl), hb.s1.nil, hb.s1.cap⟩, ⟨(hS.rd 2 rfl), hb.s2.nil, hb.s2.cap⟩, ⟨(hS.rd 1 rfl), hb.s3.nil, hb.s3.cap⟩, ⟨(hS.rd 0 rfl), hb.s4.nil, hb.s4.cap⟩⟩) hm (hS.blk 0 rfl) rfl) ?_
  rintro _ w15 ⟨rfl, hb14⟩
  replace hS := hS.call hb14
  refine ⟨_, rfl, ?_⟩
  intro a hA
  refine seq_do hA rfl rfl rfl (does_assign rfl) ?_
  intro a hA
  refine seq_end ?_
  refine hK11 _ _ ?_
  refine wp_seq_k (fun K16 hK16 => ?_)
  refine wp_region_lit ?_
  refine seq_do hA rfl rfl rfl (does_move rfl) ?_
  intro a hA
  refine seq_do (v := .bool true) hA rfl rfl rfl (does_bin rfl rfl (fun w => (bin_neq w).trans (by rw [show ((wantR2 p q != 0)) = true from hw]))) ?_
  intro a hA
  refine seq_end ?_
  refine hK16 _ _ ?_
  refine wp_cond_true (hA.ev rfl) ?_
  refine wp_seq_k (fun K17 hK17 => ?_)
  refine wp_region_lit ?_
  refine seq_do (v := .agg #[.bool false, .slice none 0 0, .slice none 0 0, .bool false, .slice none 0 0, .slice none 0 0]) hA rfl rfl rfl (does_build rfl (fun w => by kernel_rfl)) ?_
  intro a hA
  refine seq_do (v := .agg #[.bool false, .slice none 0 0, .slice none 0 0, .bool false, .slice none 0 0, .slice none 0 0]) hA rfl rfl rfl (does_build rfl (fun w => by kernel_rfl)) ?_
  intro a hA
  refine seq_do hA rfl rfl rfl (does_move rfl) ?_
  intro a hA
  refine seq_store (us := [.bool false, .slice none 0 0, .slice none 0 0, .bool false, .slice none 0 0, .slice none 0 0]) hA hS rfl rfl (sets_store (cs := [.bool false, .slice none 0 0, .slice none 0 0, .bool false, .slice none 0 0, .slice none 0 0]) rfl rfl rfl (by kernel_rfl) hS 2 rfl rfl rfl) 2 rfl rfl rfl rfl ?_
  intro w18 hS
  refine seq_store (us := [.bool false, .slice none 0 0, .slice none 0 0, .bool false, .slice none 0 0, .slice none 0 0]) hA hS rfl rfl (sets_store (cs := [.bool false, .slice none 0 0, .slice none 0 0, .bool false, .slice none 0 0, .slice none 0 0]) rfl rfl rfl (by kernel_rfl) hS 1 rfl rfl rfl) 1 rfl rfl rfl rfl ?_
  intro w19 hS
  refine seq_do hA rfl rfl rfl (does_assign rfl) ?_
  intro a hA
  refine seq_end ?_
  refine hK17 _ _ ?_
  refine wp_ret ?_
  refine hret _ _ ?_
  refine ends (v := .tuple #[.agg #[.bool false, .slice none 0 0, .slice none 0 0, .bool false, .slice none 0 0, .slice none 0 0], .agg #[.bool false, .slice none 0 0, .slice none 0 0, .bool false, .slice none 0 0, .slice none 0 0], .int .i64 (wantR2 p q)]) hA rfl (.cons (res_cell hS ExR_isS_26 rfl 2 rfl (cs := [.bool false, .slice none 0 0, .slice none 0 0, .bool false, .slice none 0 0, .slice none 0 0]) rfl rfl) (.cons (res_cell hS ExR_isS_26 rfl 1 rfl (cs := [.bool false, .slice none 0 0, .slice none 0 0, .bool false, .slice none 0 0, .slice none 0 0]) rfl rfl) (.cons (res_tmp rfl) .nil))) rfl ?_
  exact ⟨none, 0, none, 0, none, 0, none, 0, none, 0, none, 0, none, 0, none, 0, rfl, ⟨(Sc.none _), (Sc.none _), (Sc.none _), (Sc.none _)⟩, ⟨(Sc.none _), (Sc.none _), (Sc.none _), (Sc.none _)⟩, hS.bel⟩
theorem dmZ_any {w : World} {u v x y : Rat} {a1 a2 a3 a4 : Option Addr} {ac1 ac2 ac3 ac4 : Nat} (ha : Nm w (Q6.rat u v) a1 ac1 a2 ac2 a3 ac3 a4 ac4) {u1 u2 u3 u4 : Option Addr} {uc1 uc2 uc3 uc4 : Nat} (hb : Nm w (Q6.rat x y) u1 uc1 u2 uc2 u3 uc3 u4 uc4) (hu : fitR u) (hv : fitR v) (hx : fitR x) (hy : fitR y) (hw : wantR2 (Q6.rat u v) (Q6.rat x y) = 0) (hz : x = 0 ∧ y = 0) : Calls Try.prog 10 #[numV (Q6.rat u v) a1 ac1 a2 ac2 a3 ac3 a4 ac4, numV (Q6.rat x y) u1 uc1 u2 uc2 u3 uc3 u4 uc4] w (AnsNN w (Q6.zero, Q6.zero, 3)) := by
  have k1 : (words x.num.natAbs).length ≤ 512 := hx.1
  have k2 : (words y.num.natAbs).length ≤ 512 := hy.1
  have hS : St w w [] [(u4, words y.den), (u3, words y.num.natAbs), (u2, words x.den), (u1, words x.num.natAbs), (a4, words v.den), (a3, words v.num.natAbs), (a2, words u.den), (a1, words u.num.natAbs)] [] := ((((((((St.start w).addR ha.s1.rd).addR ha.s2.rd).addR ha.s3.rd).addR ha.s4.rd).addR hb.s1.rd).addR hb.s2.rd).addR hb.s3.rd).addR hb.s4.rd
  refine walk_of (l := [(0, .agg #[.bool (rb u.num), .slice a1 ((words u.num.natAbs).length) ac1, .slice a2 ((words u.den).length) ac2, .bool (rb v.num), .slice a3 ((words v.num.natAbs).length) ac3, .slice a4 ((words v.den).length) ac4]), (1, .agg #[.bool (rb x.num), .slice u1 ((words x.num.natAbs).length) uc1, .slice u2 ((words x.den).length) uc2, .bool (rb y.num), .slice u3 ((words y.num.natAbs).length) uc3, .slice u4 ((words y.den).length) uc4])]) Try.func10 rfl Try.ntmps10 rfl rfl ?_
  intro Q hret hnorm hP a hA
  refine wp_seq_k (fun K1 hK1 => ?_)
  refine wp_region_lit ?_
  refine seq_new (vs := [.bool (rb u.num), .slice a1 ((words u.num.natAbs).length) ac1, .slice a2 ((words u.den).length) ac2, .bool (rb v.num), .slice a3 ((words v.num.natAbs).length) ac3, .slice a4 ((words v.den).length) ac4]) (t := 26) hA hS rfl rfl rfl (fun g => .pointer (some ⟨g, 0, none⟩)) (does_box rfl rfl) rfl ?_
  intro g2 w3 hS a hA
  refine seq_new (vs := [.bool (rb x.num), .slice u1 ((words x.num.natAbs).length) uc1, .slice u2 ((words x.den).length) uc2, .bool (rb y.num), .slice u3 ((words y.num.natAbs).length) uc3, .slice u4 ((words y.den).length) uc4]) (t := 26) hA hS rfl rfl rfl (fun g => .pointer (some ⟨g, 0, none⟩)) (does_box rfl rfl) rfl ?_
  intro g4 w5 hS a hA
  refine seq_new (vs := [.bool false, .slice none 0 0, .slice none 0 0, .bool false, .slice none 0 0, .slice none 0 0]) (t := 26) hA hS rfl rfl rfl (fun g => .pointer (some ⟨g, 0, none⟩)) (does_alloc (z := .agg #[.bool false, .slice none 0 0, .slice none 0 0, .bool false, .slice none 0 0, .slice none 0 0]) (by kernel_rfl) rfl) rfl ?_
  intro g6 w7 hS a hA
  refine seq_new (vs := [.bool false, .slice none 0 0, .slice none 0 0, .bool false, .slice none 0 0, .slice none 0 0]) (t := 26) hA hS rfl rfl rfl (fun g => .pointer (some ⟨g, 0, none⟩)) (does_alloc (z := .agg #[.bool false, .slice none 0 0, .slice none 0 0, .bool false, .slice none 0 0, .slice none 0 0]) (by kernel_rfl) rfl) rfl ?_
  intro g8 w9 hS a hA
  refine seq_do hA rfl rfl rfl (does_assign rfl) ?_
  intro a hA
  refine seq_end ?_
  refine hK1 _ _ ?_
  refine wp_seq_k (fun K10 hK10 => ?_)
  refine wp_seq_k (fun K11 hK11 => ?_)
  refine wp_region_lit ?_
  refine seq_do (v := .agg #[.bool (rb u.num), .slice a1 ((words u.num.natAbs).length) ac1, .slice a2 ((words u.den).length) ac2, .bool (rb v.num), .slice a3 ((words v.num.natAbs).length) ac3, .slice a4 ((words v.den).length) ac4]) hA rfl rfl rfl (does_loadS hS ExR_isS_26 rfl 3 rfl (cs := [.bool (rb u.num), .slice a1 ((words u.num.natAbs).length) ac1, .slice a2 ((words u.den).length) ac2, .bool (rb v.num), .slice a3 ((words v.num.natAbs).length) ac3, .slice a4 ((words v.den).length) ac4]) rfl rfl) ?_
  intro a hA
  refine seq_do (v := .agg #[.bool (rb x.num), .slice u1 ((words x.num.natAbs).length) uc1, .slice u2 ((words x.den).length) uc2, .bool (rb y.num), .slice u3 ((words y.num.natAbs).length) uc3, .slice u4 ((words y.den).length) uc4]) hA rfl rfl rfl (does_loadS hS ExR_isS_26 rfl 2 rfl (cs := [.bool (rb x.num), .slice u1 ((words x.num.natAbs).length) uc1, .slice u2 ((words x.den).length) uc2, .bool (rb y.num), .slice u3 ((words y.num.natAbs).length) uc3, .slice u4 ((words y.den).length) uc4]) rfl rfl) ?_
  intro a hA
  refine seq_new (vs := [.bool (rb u.num), .slice a1 ((words u.num.natAbs).length) ac1, .slice a2 ((words u.den).length) ac2, .bool (rb v.num), .slice a3 ((words v.num.natAbs).length) ac3, .slice a4 ((words v.den).length) ac4, .bool (rb x.num), .slice u1 ((words x.num.natAbs).length) uc1, .slice u2 ((words x.den).length) uc2, .bool (rb y.num), .slice u3 ((words y.num.natAbs).length) uc3, .slice u4 ((words y.den).length) uc4]) (t := 26) hA hS rfl rfl rfl (fun g => .slice (some ⟨g, 0, none⟩) 2 2) (does_buildSlice rfl (by kernel_rfl)) rfl ?_
  intro g12 w13 hS a hA
  refine seq_call hA rfl rfl rfl (enters_func  rfl rfl (fun w => by kernel_rfl)) (wantR2_any (show Nm _ (Q6.rat u v) a1 ac1 a2 ac2 a3 ac3 a4 ac4 from ⟨⟨(hS.rd 7 rfl), ha.s1.nil, ha.s1.cap⟩, ⟨(hS.rd 6 rfl), ha.s2.nil, ha.s2.cap⟩, ⟨(hS.rd 5 rfl), ha.s3.nil, ha.s3.cap⟩, ⟨(hS.rd 4 rfl), ha.s4.nil, ha.s4.cap⟩⟩) (lenQ_rat hu hv) (show Nm _ (Q6.rat x y) u1 uc1 u2 uc2 u3 uc3 u4 uc4 from ⟨⟨(hS.rd 3 rfl), hb.s1.nil, hb.s1.cap⟩, ⟨(hS.rd 2 rfl), hb.s2.nil, hb.s2.cap⟩, ⟨(hS.rd 1 rfl), hb.s3.nil, hb.s3.cap⟩, ⟨(hS.rd 0 rfl), hb.s4.nil, hb.s4.cap⟩⟩) (lenQ_rat hx hy) (hS.blk 0 rfl) hw) ?_
  rintro _ w15 ⟨rfl, hb14⟩
  replace hS := hS.call hb14
  refine ⟨_, rfl, ?_⟩
  intro a hA
  refine seq_do hA rfl rfl rfl (does_assign rfl) ?_
  intro a hA
  refine seq_end ?_
  refine hK11 _ _ ?_
  refine wp_seq_k (fun K16 hK16 => ?_)
  refine wp_region_lit ?_
  refine seq_do hA rfl rfl rfl (does_move rfl) ?_
  intro a hA
  refine seq_do (v := .bool false) hA rfl rfl rfl (does_bin rfl rfl (fun w => by kernel_rfl)) ?_
  intro a hA
  refine seq_end ?_
  refine hK16 _ _ ?_
  refine wp_cond_false (hA.ev rfl) ?_
  refine wp_skip ?_
  refine hK10 _ _ ?_
  refine wp_seq_k (fun K17 hK17 => ?_)
  refine wp_seq_k (fun K18 hK18 => ?_)
  refine wp_region_lit ?_
  refine seq_do (v := .agg #[.bool (rb x.num), .slice u1 ((words x.num.natAbs).length) uc1, .slice u2 ((words x.den).length) uc2, .bool (rb y.num), .slice u3 ((words y.num.natAbs).length) uc3, .slice u4 ((words y.den).length) uc4]) hA rfl rfl rfl (does_loadS hS ExR_isS_26 rfl 3 rfl (cs := [.bool (rb x.num), .slice u1 ((words x.num.natAbs).length) uc1, .slice u2 ((words x.den).length) uc2, .bool (rb y.num), .slice u3 ((words y.num.natAbs).length) uc3, .slice u4 ((words y.den).length) uc4]) rfl rfl) ?_
  intro a hA
  refine seq_call hA rfl rfl rfl (enters_func  rfl rfl (fun w => by kernel_rfl)) ((show Calls Try.prog 32 #[.agg #[.bool (rb x.num), .slice u1 ((words x.num.natAbs).length) uc1, .slice u2 ((words x.den).length) uc2, .bool (rb y.num), .slice u3 ((words y.num.natAbs).length) uc3, .slice u4 ((words y.den).length) uc4]] _ (fun e w' => e = .returned (.bool true) ∧ _) from (((zero_rat x y).trans (decide_eq_true hz)) ▸ isZero_any (by omega) (by omega)))) ?_
  rintro _ w20 ⟨rfl, hb19⟩
  replace hS := hS.call hb19
  refine ⟨_, rfl, ?_⟩
  intro a hA
  refine seq_end ?_
  refine hK18 _ _ ?_
  refine wp_cond_true (hA.ev rfl) ?_
  refine wp_seq_k (fun K21 hK21 => ?_)
  refine wp_region_lit ?_
  refine seq_do (v := .agg #[.bool false, .slice none 0 0, .slice none 0 0, .bool false, .slice none 0 0, .slice none 0 0]) hA rfl rfl rfl (does_build rfl (fun w => by kernel_rfl)) ?_
  intro a hA
  refine seq_do (v := .agg #[.bool false, .slice none 0 0, .slice none 0 0, .bool false, .slice none 0 0, .slice none 0 0]) hA rfl rfl rfl (does_build rfl (fun w => by kernel_rfl)) ?_
  intro a hA
  refine seq_store (us := [.bool false, .slice none 0 0, .slice none 0 0, .bool false, .slice none 0 0, .slice none 0 0]) hA hS rfl rfl (sets_store (cs := [.bool false, .slice none 0 0, .slice none 0 0, .bool false, .slice none 0 0, .slice none 0 0]) rfl rfl rfl (by kernel_rfl) hS 2 rfl rfl rfl) 2 rfl rfl rfl rfl ?_
  intro w22 hS
  refine seq_store (us := [.bool false, .slice none 0 0, .slice none 0 0, .bool false, .slice none 0 0, .slice none 0 0]) hA hS rfl rfl (sets_store (cs := [.bool false, .slice none 0 0, .slice none 0 0, .bool false, .slice none 0 0, .slice none 0 0]) rfl rfl rfl (by kernel_rfl) hS 1 rfl rfl rfl) 1 rfl rfl rfl rfl ?_
  intro w23 hS
  refine seq_do hA rfl rfl rfl (does_assign rfl) ?_
  intro a hA
  refine seq_end ?_
  refine hK21 _ _ ?_
  refine wp_ret ?_
  refine hret _ _ ?_
  refine ends (v := .tuple #[.agg #[.bool false, .slice none 0 0, .slice none 0 0, .bool false, .slice none 0 0, .slice none 0 0], .agg #[.bool false, .slice none 0 0, .slice none 0 0, .bool false, .slice none 0 0, .slice none 0 0], .int .i64 3]) hA rfl (.cons (res_cell hS ExR_isS_26 rfl 2 rfl (cs := [.bool false, .slice none 0 0, .slice none 0 0, .bool false, .slice none 0 0, .slice none 0 0]) rfl rfl) (.cons (res_cell hS ExR_isS_26 rfl 1 rfl (cs := [.bool false, .slice none 0 0, .slice none 0 0, .bool false, .slice none 0 0, .slice none 0 0]) rfl rfl) (.cons (res_tmp rfl) .nil))) rfl ?_
  exact ⟨none, 0, none, 0, none, 0, none, 0, none, 0, none, 0, none, 0, none, 0, rfl, ⟨(Sc.none _), (Sc.none _), (Sc.none _), (Sc.none _)⟩, ⟨(Sc.none _), (Sc.none _), (Sc.none _), (Sc.none _)⟩, hS.bel⟩
set_option maxHeartbeats 1000000 in
theorem dmW_any {w : World} {u v x y : Rat} {a1 a2 a3 a4 : Option Addr} {ac1 ac2 ac3 ac4 : Nat} (ha : Nm w (Q6.rat u v) a1 ac1 a2 ac2 a3 ac3 a4 ac4) {u1 u2 u3 u4 : Option Addr} {uc1 uc2 uc3 uc4 : Nat} (hb : Nm w (Q6.rat x y) u1 uc1 u2 uc2 u3 uc3 u4 uc4) (hu : fitR u) (hv : fitR v) (hx : fitR x) (hy : fitR y) (hw : wantR2 (Q6.rat u v) (Q6.rat x y) = 0) (hz : ¬ (x = 0 ∧ y = 0)) (hx2 : spX x y ≠ 0) {T : Int} {R D : Nat} (hT : dmT (spX u v) (spX x y) (spD u v) (spD x y) = T) (hR : dmR (spX u v) (spX x y) (spD u v) (spD x y) = R) (hD : spD u v * spD x y = D) (hD0 : D ≠ 0) (n1 : (words T.natAbs).length ≤ 3000) (n2 : (words ((R : Nat) : Int).natAbs).length ≤ 3000) (n3 : (words 1).length ≤ 512) (n4 : (words D).length ≤ 3000) {z1 z2 : Q6 × Int} (e1 : setQ T 0 1 = z1) (e2 : setQ ((R : Nat) : Int) 0 D = z2) : Calls Try.prog 10 #[numV (Q6.rat u v) a1 ac1 a2 ac2 a3 ac3 a4 ac4, numV (Q6.rat x y) u1 uc1 u2 uc2 u3 uc3 u4 uc4] w (AnsNN w (dmS z1 z2)) := by
  have k1 : (words x.num.natAbs).length ≤ 512 := hx.1
  have k2 : (words y.num.natAbs).length ≤ 512 := hy.1
  have hS : St w w [] [(u4, words y.den), (u3, words y.num.natAbs), (u2, words x.den), (u1, words x.num.natAbs), (a4, words v.den), (a3, words v.num.natAbs), (a2, words u.den), (a1, words u.num.natAbs)] [] := ((((((((St.start w).addR ha.s1.rd).addR ha.s2.rd).addR ha.s3.rd).addR ha.s4.rd).addR hb.s1.rd).addR hb.s2.rd).addR hb.s3.rd).addR hb.s4.rd
  refine walk_of (l := [(0, .agg #[.bool (rb u.num), .slice a1 ((words u.num.natAbs).length) ac1, .slice a2 ((words u.den).length) ac2, .bool (rb v.num), .slice a3 ((words v.num.natAbs).length) ac3, .slice a4 ((words v.den).length) ac4]), (1, .agg #[.bool (rb x.num), .slice u1 ((words x.num.natAbs).length) uc1, .slice u2 ((words x.den).length) uc2, .bool (rb y.num), .slice u3 ((words y.num.natAbs).length) uc3, .slice u4 ((words y.den).length) uc4])]) Try.func10 rfl Try.ntmps10 rfl rfl ?_
  intro Q hret hnorm hP a hA
  refine wp_seq_k (fun K1 hK1 => ?_)
  refine wp_region_lit ?_
  refine seq_new (vs := [.bool (rb u.num), .slice a1 ((words u.num.natAbs).length) ac1, .slice a2 ((words u.den).length) ac2, .bool (rb v.num), .slice a3 ((words v.num.natAbs).length) ac3, .slice a4 ((words v.den).length) ac4]) (t := 26) hA hS rfl rfl rfl (fun g => .pointer (some ⟨g, 0, none⟩)) (does_box rfl rfl) rfl ?_
  intro g2 w3 hS a hA
  refine seq_new (vs := [.bool (rb x.num), .slice u1 ((words x.num.natAbs).length) uc1, .slice u2 ((words x.den).length) uc2, .bool (rb y.num), .slice u3 ((words y.num.natAbs).length) uc3, .slice u4 ((words y.den).length) uc4]) (t := 26) hA hS rfl rfl rfl (fun g => .pointer (some ⟨g, 0, none⟩)) (does_box rfl rfl) rfl ?_
  intro g4 w5 hS a hA
  refine seq_new (vs := [.bool false, .slice none 0 0, .slice none 0 0, .bool false, .slice none 0 0, .slice none 0 0]) (t := 26) hA hS rfl rfl rfl (fun g => .pointer (some ⟨g, 0, none⟩)) (does_alloc (z := .agg #[.bool false, .slice none 0 0, .slice none 0 0, .bool false, .slice none 0 0, .slice none 0 0]) (by kernel_rfl) rfl) rfl ?_
  intro g6 w7 hS a hA
  refine seq_new (vs := [.bool false, .slice none 0 0, .slice none 0 0, .bool false, .slice none 0 0, .slice none 0 0]) (t := 26) hA hS rfl rfl rfl (fun g => .pointer (some ⟨g, 0, none⟩)) (does_alloc (z := .agg #[.bool false, .slice none 0 0, .slice none 0 0, .bool false, .slice none 0 0, .slice none 0 0]) (by kernel_rfl) rfl) rfl ?_
  intro g8 w9 hS a hA
  refine seq_do hA rfl rfl rfl (does_assign rfl) ?_
  intro a hA
  refine seq_end ?_
  refine hK1 _ _ ?_
  refine wp_seq_k (fun K10 hK10 => ?_)
  refine wp_seq_k (fun K11 hK11 => ?_)
  refine wp_region_lit ?_
  refine seq_do (v := .agg #[.bool (rb u.num), .slice a1 ((words u.num.natAbs).length) ac1, .slice a2 ((words u.den).length) ac2, .bool (rb v.num), .slice a3 ((words v.num.natAbs).length) ac3, .slice a4 ((words v.den).length) ac4]) hA rfl rfl rfl (does_loadS hS ExR_isS_26 rfl 3 rfl (cs := [.bool (rb u.num), .slice a1 ((words u.num.natAbs).length) ac1, .slice a2 ((words u.den).length) ac2, .bool (rb v.num), .slice a3 ((words v.num.natAbs).length) ac3, .slice a4 ((words v.den).length) ac4]) rfl rfl) ?_
  intro a hA
  refine seq_do (v := .agg #[.bool (rb x.num), .slice u1 ((words x.num.natAbs).length) uc1, .slice u2 ((words x.den).length) uc2, .bool (rb y.num), .slice u3 ((words y.num.natAbs).length) uc3, .slice u4 ((words y.den).length) uc4]) hA rfl rfl rfl (does_loadS hS ExR_isS_26 rfl 2 rfl (cs := [.bool (rb x.num), .slice u1 ((words x.num.natAbs).length) uc1, .slice u2 ((words x.den).length) uc2, .bool (rb y.num), .slice u3 ((words y.num.natAbs).length) uc3, .slice u4 ((words y.den).length) uc4]) rfl rfl) ?_
  intro a hA
  refine seq_new (vs := [.bool (rb u.num), .slice a1 ((words u.num.natAbs).length) ac1, .slice a2 ((words u.den).length) ac2, .bool (rb v.num), .slice a3 ((words v.num.natAbs).length) ac3, .slice a4 ((words v.den).length) ac4, .bool (rb x.num), .slice u1 ((words x.num.natAbs).length) uc1, .slice u2 ((words x.den).length) uc2, .bool (rb y.num), .slice u3 ((words y.num.natAbs).length) uc3, .slice u4 ((words y.den).length) uc4]) (t := 26) hA hS rfl rfl rfl (fun g => .slice (some ⟨g, 0, none⟩) 2 2) (does_buildSlice rfl (by kernel_rfl)) rfl ?_
  intro g12 w13 hS a hA
  refine seq_call hA rfl rfl rfl (enters_func  rfl rfl (fun w => by kernel_rfl)) (wantR2_any (show Nm _ (Q6.rat u v) a1 ac1 a2 ac2 a3 ac3 a4 ac4 from ⟨⟨(hS.rd 7 rfl), ha.s1.nil, ha.s1.cap⟩, ⟨(hS.rd 6 rfl), ha.s2.nil, ha.s2.cap⟩, ⟨(hS.rd 5 rfl), ha.s3.nil, ha.s3.cap⟩, ⟨(hS.rd 4 rfl), ha.s4.nil, ha.s4.cap⟩⟩) (lenQ_rat hu hv) (show Nm _ (Q6.rat x y) u1 uc1 u2 uc2 u3 uc3 u4 uc4 from ⟨⟨(hS.rd 3 rfl), hb.s1.nil, hb.s1.cap⟩, ⟨(hS.rd 2 rfl), hb.s2.nil, hb.s2.cap⟩, ⟨(hS.rd 1 rfl), hb.s3.nil, hb.s3.cap⟩, ⟨(hS.rd 0 rfl), hb.s4.nil, hb.s4.cap⟩⟩) (lenQ_rat hx hy) (hS.blk 0 rfl) hw) ?_
  rintro _ w15 ⟨rfl, hb14⟩
  replace hS := hS.call hb14
  refine ⟨_, rfl, ?_⟩
  intro a hA
  refine seq_do hA rfl rfl rfl (does_assign rfl) ?_
  intro a hA
  refine seq_end ?_
  refine hK11 _ _ ?_
  refine wp_seq_k (fun K16 hK16 => ?_)
  refine wp_region_lit ?_
  refine seq_do hA rfl rfl rfl (does_move rfl) ?_
  intro a hA
  refine seq_do (v := .bool false) hA rfl rfl rfl (does_bin rfl rfl (fun w => by kernel_rfl)) ?_
  intro a hA
  refine seq_end ?_
  refine hK16 _ _ ?_
  refine wp_cond_false (hA.ev rfl) ?_
  refine wp_skip ?_
  refine hK10 _ _ ?_
  refine wp_seq_k (fun K17 hK17 => ?_)
  refine wp_seq_k (fun K18 hK18 => ?_)
  refine wp_region_lit ?_
  refine seq_do (v := .agg #[.bool (rb x.num), .slice u1 ((words x.num.natAbs).length) uc1, .slice u2 ((words x.den).length) uc2, .bool (rb y.num), .slice u3 ((words y.num.natAbs).length) uc3, .slice u4 ((words y.den).length) uc4]) hA rfl rfl rfl (does_loadS hS ExR_isS_26 rfl 3 rfl (cs := [.bool (rb x.num), .slice u1 ((words x.num.natAbs).length) uc1, .slice u2 ((words x.den).length) uc2, .bool (rb y.num), .slice u3 ((words y.num.natAbs).length) uc3, .slice u4 ((words y.den).length) uc4]) rfl rfl) ?_
  intro a hA
  refine seq_call hA rfl rfl rfl (enters_func  rfl rfl (fun w => by kernel_rfl)) ((show Calls Try.prog 32 #[.agg #[.bool (rb x.num), .slice u1 ((words x.num.natAbs).length) uc1, .slice u2 ((words x.den).length) uc2, .bool (rb y.num), .slice u3 ((words y.num.natAbs).length) uc3, .slice u4 ((words y.den).length) uc4]] _ (fun e w' => e = .returned (.bool false) ∧ _) from (((zero_rat x y).trans (decide_eq_false hz)) ▸ isZero_any (by omega) (by omega)))) ?_
  rintro _ w20 ⟨rfl, hb19⟩
  replace hS := hS.call hb19
  refine ⟨_, rfl, ?_⟩
  intro a hA
  refine seq_end ?_
  refine hK18 _ _ ?_
  refine wp_cond_false (hA.ev rfl) ?_
  refine wp_skip ?_
  refine hK17 _ _ ?_
  refine wp_seq_k (fun K21 hK21 => ?_)
  have hJ96 : ∀ a w1, (∃ (J54g : Nat) (J55g : Nat) (J56 : Option Addr) (J57 : Nat) (J58 : Option Addr) (J59 : Nat) (J60 : Option Addr) (J61 : Nat) (J62 : Option Addr) (J63 : Nat) (J64 : Option Addr) (J65 : Nat) (J66 : Option Addr) (J67 : Nat) (J68 : Option Addr) (J69 : Nat) (J70 : Option Addr) (J71 : Nat) (J72 : Option Addr) (J73 : Nat) (J74 : Option Addr) (J75 : Nat), Sl a 53 [(0, .agg #[.bool (rb u.num), .slice a1 ((words u.num.natAbs).length) ac1, .slice a2 ((words u.den).length) ac2, .bool (rb v.num), .slice a3 ((words v.num.natAbs).length) ac3, .slice a4 ((words v.den).length) ac4]), (1, .agg #[.bool (rb x.num), .slice u1 ((words x.num.natAbs).length) uc1, .slice u2 ((words x.den).length) uc2, .bool (rb y.num), .slice u3 ((words y.num.natAbs).length) uc3, .slice u4 ((words y.den).length) uc4]), (2, .pointer (some ⟨g2, 0, none⟩)), (3, .pointer (some ⟨g4, 0, none⟩)), (4, .pointer (some ⟨g6, 0, none⟩)), (5, .pointer (some ⟨g8, 0, none⟩)), (6, .int .i64 0), (7, .int .i64 0), (8, .pointer (some ⟨J54g, 0, none⟩)), (9, .pointer (some ⟨J55g, 0, none⟩)), (10, .agg #[.bool (rb u.num), .slice a1 ((words u.num.natAbs).length) ac1, .slice a2 ((words u.den).length) ac2, .bool (rb v.num), .slice a3 ((words v.num.natAbs).length) ac3, .slice a4 ((words v.den).length) ac4]), (11, .agg #[.bool (rb x.num), .slice u1 ((words x.num.natAbs).length) uc1, .slice u2 ((words x.den).length) uc2, .bool (rb y.num), .slice u3 ((words y.num.natAbs).length) uc3, .slice u4 ((words y.den).length) uc4]), (12, .slice (some ⟨g12, 0, none⟩) 2 2), (13, .int .i64 0), (14, .int .i64 0), (15, .bool false), (19, .agg #[.bool (rb x.num), .slice u1 ((words x.num.natAbs).length) uc1, .slice u2 ((words x.den).length) uc2, .bool (rb y.num), .slice u3 ((words y.num.natAbs).length) uc3, .slice u4 ((words y.den).length) uc4]), (20, .bool false), (23, .tuple #[.agg #[.bool ((rb T)), .slice J56 ((words T.natAbs).length) J57, .bool false, .slice none 0 0, .slice J58 ((words 1).length) J59], .agg #[.bool ((rb ((R : Nat) : Int))), .slice J60 ((words ((R : Nat) : Int).natAbs).length) J61, .bool false, .slice none 0 0, .slice J62 ((words D).length) J63]]), (24, .agg #[.bool (rb u.num), .slice a1 ((words u.num.natAbs).length) ac1, .slice a2 ((words u.den).length) ac2, .bool (rb v.num), .slice a3 ((words v.num.natAbs).length) ac3, .slice a4 ((words v.den).length) ac4]), (25, .agg #[.bool ((rb (spX u v))), .slice J64 ((words (spX u v).natAbs).length) J65, .bool ((rb (spY u v))), .slice J66 ((words (spY u v).natAbs).length) J67, .slice J68 ((words (spD u v)).length) J69]), (26, .agg #[.bool (rb x.num), .slice u1 ((words x.num.natAbs).length) uc1, .slice u2 ((words x.den).length) uc2, .bool (rb y.num), .slice u3 ((words y.num.natAbs).length) uc3, .slice u4 ((words y.den).length) uc4]), (27, .agg #[.bool ((rb (spX x y))), .slice J70 ((words (spX x y).natAbs).length) J71, .bool ((rb (spY x y))), .slice J72 ((words (spY x y).natAbs).length) J73, .slice J74 ((words (spD x y)).length) J75]), (28, .tuple #[.agg #[.bool ((rb T)), .slice J56 ((words T.natAbs).length) J57, .bool false, .slice none 0 0, .slice J58 ((words 1).length) J59], .agg #[.bool ((rb ((R : Nat) : Int))), .slice J60 ((words ((R : Nat) : Int).natAbs).length) J61, .bool false, .slice none 0 0, .slice J62 ((words D).length) J63]]), (29, .agg #[.bool ((rb T)), .slice J56 ((words T.natAbs).length) J57, .bool false, .slice none 0 0, .slice J58 ((words 1).length) J59]), (30, .agg #[.bool ((rb ((R : Nat) : Int))), .slice J60 ((words ((R : Nat) : Int).natAbs).length) J61, .bool false, .slice none 0 0, .slice J62 ((words D).length) J63])] ∧ St w w1 [(J55g, [.bool ((rb ((R : Nat) : Int))), .slice J60 ((words ((R : Nat) : Int).natAbs).length) J61, .bool false, .slice none 0 0, .slice J62 ((words D).length) J63]), (J54g, [.bool ((rb T)), .slice J56 ((words T.natAbs).length) J57, .bool false, .slice none 0 0, .slice J58 ((words 1).length) J59]), (g12, [.bool (rb u.num), .slice a1 ((words u.num.natAbs).length) ac1, .slice a2 ((words u.den).length) ac2, .bool (rb v.num), .slice a3 ((words v.num.natAbs).length) ac3, .slice a4 ((words v.den).length) ac4, .bool (rb x.num), .slice u1 ((words x.num.natAbs).length) uc1, .slice u2 ((words x.den).length) uc2, .bool (rb y.num), .slice u3 ((words y.num.natAbs).length) uc3, .slice u4 ((words y.den).length) uc4]), (g8, [.bool false, .slice none 0 0, .slice none 0 0, .bool false, .slice none 0 0, .slice none 0 0]), (g6, [.bool false, .slice none 0 0, .slice none 0 0, .bool false, .slice none 0 0, .slice none 0 0]), (g4, [.bool (rb x.num), .slice u1 ((words x.num.natAbs).length) uc1, .slice u2 ((words x.den).length) uc2, .bool (rb y.num), .slice u3 ((words y.num.natAbs).length) uc3, .slice u4 ((words y.den).length) uc4]), (g2, [.bool (rb u.num), .slice a1 ((words u.num.natAbs).length) ac1, .slice a2 ((words u.den).length) ac2, .bool (rb v.num), .slice a3 ((words v.num.natAbs).length) ac3, .slice a4 ((words v.den).length) ac4])] [(J62, words D), (J60, words ((R : Nat) : Int).natAbs), (J58, words 1), (J56, words T.natAbs), (J74, words (spD x y)), (J72, words (spY x y).natAbs), (J70, words (spX x y).natAbs), (J68, words (spD u v)), (J66, words (spY u v).natAbs), (J64, words (spX u v).natAbs), (u4, words y.den), (u3, words y.num.natAbs), (u2, words x.den), (u1, words x.num.natAbs), (a4, words v.den), (a3, words v.num.natAbs), (a2, words u.den), (a1, words u.num.natAbs)] [] ∧ (J62 = none → J63 = 0) ∧ (words D : List Nat).length ≤ J63 ∧ (J60 = none → J61 = 0) ∧ (words ((R : Nat) : Int).natAbs : List Nat).length ≤ J61 ∧ (J58 = none → J59 = 0) ∧ (words 1 : List Nat).length ≤ J59 ∧ (J56 = none → J57 = 0) ∧ (words T.natAbs : List Nat).length ≤ J57 ∧ (J74 = none → J75 = 0) ∧ (words (spD x y) : List Nat).length ≤ J75 ∧ (J72 = none → J73 = 0) ∧ (words (spY x y).natAbs : List Nat).length ≤ J73 ∧ (J70 = none → J71 = 0) ∧ (words (spX x y).natAbs : List Nat).length ≤ J71 ∧ (J68 = none → J69 = 0) ∧ (words (spD u v) : List Nat).length ≤ J69 ∧ (J66 = none → J67 = 0) ∧ (words (spY u v).natAbs : List Nat).length ≤ J67 ∧ (J64 = none → J65 = 0) ∧ (words (spX u v).natAbs : List Nat).length ≤ J65) → K21 a w1 := by
    clear hA hS
    rintro a w97 ⟨J54g, J55g, J56, J57, J58, J59, J60, J61, J62, J63, J64, J65, J66, J67, J68, J69, J70, J71, J72, J73, J74, J75, hA, hS, hn76, hc77, hn78, hc79, hn80, hc81, hn82, hc83, hn84, hc85, hn86, hc87, hn88, hc89, hn90, hc91, hn92, hc93, hn94, hc95⟩
    refine hK21 _ _ ?_
    refine wp_seq_k (fun K98 hK98 => ?_)
    refine wp_region_lit ?_
    refine seq_do (v := .agg #[.bool ((rb T)), .slice J56 ((words T.natAbs).length) J57, .bool false, .slice none 0 0, .slice J58 ((words 1).length) J59]) hA rfl rfl rfl (does_loadS hS ExR_isS_48 rfl 1 rfl (cs := [.bool ((rb T)), .slice J56 ((words T.natAbs).length) J57, .bool false, .slice none 0 0, .slice J58 ((words 1).length) J59]) rfl rfl) ?_
    intro a hA
    refine seq_call hA rfl rfl rfl (enters_func  rfl rfl (fun w => by kernel_rfl)) (zsettle0_as ⟨(hS.rd 3 rfl), hn82, hc83⟩ ⟨(hS.rd 2 rfl), hn80, hc81⟩ e1 (by omega) (by omega) (by decide)) ?_
    rintro _ w102 ⟨p99_1, p99_c1, p99_2, p99_c2, p99_3, p99_c3, p99_4, p99_c4, rfl, hn100, hb101⟩
    replace hS := hS.call hb101
    replace hS := hS.addR hn100.s1.rd
    replace hS := hS.addR hn100.s2.rd
    replace hS := hS.addR hn100.s3.rd
    replace hS := hS.addR hn100.s4.rd
    refine ⟨_, rfl, ?_⟩
    intro a hA
    refine seq_do hA rfl rfl rfl (does_move rfl) ?_
    intro a hA
    refine seq_do (v := .agg #[.bool z1.1.b1, .slice p99_1 z1.1.t1.length p99_c1, .slice p99_2 z1.1.q1.length p99_c2, .bool z1.1.b2, .slice p99_3 z1.1.t2.length p99_c3, .slice p99_4 z1.1.q2.length p99_c4]) hA rfl rfl rfl (does_extract (vs := [.agg #[.bool z1.1.b1, .slice p99_1 z1.1.t1.length p99_c1, .slice p99_2 z1.1.q1.length p99_c2, .bool z1.1.b2, .slice p99_3 z1.1.t2.length p99_c3, .slice p99_4 z1.1.q2.length p99_c4], .int .i64 z1.2]) rfl rfl) ?_
    intro a hA
    refine seq_do (v := .int .i64 z1.2) hA rfl rfl rfl (does_extract (vs := [.agg #[.bool z1.1.b1, .slice p99_1 z1.1.t1.length p99_c1, .slice p99_2 z1.1.q1.length p99_c2, .bool z1.1.b2, .slice p99_3 z1.1.t2.length p99_c3, .slice p99_4 z1.1.q2.length p99_c4], .int .i64 z1.2]) rfl rfl) ?_
    intro a hA
    refine seq_store (us := [.bool z1.1.b1, .slice p99_1 z1.1.t1.length p99_c1, .slice p99_2 z1.1.q1.length p99_c2, .bool z1.1.b2, .slice p99_3 z1.1.t2.length p99_c3, .slice p99_4 z1.1.q2.length p99_c4]) hA hS rfl rfl (sets_store (cs := [.bool z1.1.b1, .slice p99_1 z1.1.t1.length p99_c1, .slice p99_2 z1.1.q1.length p99_c2, .bool z1.1.b2, .slice p99_3 z1.1.t2.length p99_c3, .slice p99_4 z1.1.q2.length p99_c4]) rfl rfl rfl (by kernel_rfl) hS 4 rfl rfl rfl) 4 rfl rfl rfl rfl ?_
    intro w103 hS
    refine seq_do hA rfl rfl rfl (does_assign rfl) ?_
    intro a hA
    refine seq_end ?_
    refine hK98 _ _ ?_
    refine wp_seq_k (fun K104 hK104 => ?_)
    refine wp_seq_k (fun K105 hK105 => ?_)
    refine wp_region_lit ?_
    refine seq_do hA rfl rfl rfl (does_move rfl) ?_
    intro a hA
    rcases Bool.eq_false_or_eq_true ((z1.2 != 0)) with hb106 | hb106
    · have hb106' := bne_iff_ne.1 hb106
      refine seq_do (v := .bool true) hA rfl rfl rfl (does_bin rfl rfl (fun w => (bin_neq w).trans (by rw [hb106]))) ?_
      intro a hA
      refine seq_end ?_
      refine hK105 _ _ ?_
      refine wp_cond_true (hA.ev rfl) ?_
      refine wp_seq_k (fun K107 hK107 => ?_)
      refine wp_region_lit ?_
      refine seq_do (v := .agg #[.bool false, .slice none 0 0, .slice none 0 0, .bool false, .slice none 0 0, .slice none 0 0]) hA rfl rfl rfl (does_build rfl (fun w => by kernel_rfl)) ?_
      intro a hA
      refine seq_do (v := .agg #[.bool false, .slice none 0 0, .slice none 0 0, .bool false, .slice none 0 0, .slice none 0 0]) hA rfl rfl rfl (does_build rfl (fun w => by kernel_rfl)) ?_
      intro a hA
      refine seq_do hA rfl rfl rfl (does_move rfl) ?_
      intro a hA
      refine seq_store (us := [.bool false, .slice none 0 0, .slice none 0 0, .bool false, .slice none 0 0, .slice none 0 0]) hA hS rfl rfl (sets_store (cs := [.bool false, .slice none 0 0, .slice none 0 0, .bool false, .slice none 0 0, .slice none 0 0]) rfl rfl rfl (by kernel_rfl) hS 4 rfl rfl rfl) 4 rfl rfl rfl rfl ?_
      intro w108 hS
      refine seq_store (us := [.bool false, .slice none 0 0, .slice none 0 0, .bool false, .slice none 0 0, .slice none 0 0]) hA hS rfl rfl (sets_store (cs := [.bool false, .slice none 0 0, .slice none 0 0, .bool false, .slice none 0 0, .slice none 0 0]) rfl rfl rfl (by kernel_rfl) hS 3 rfl rfl rfl) 3 rfl rfl rfl rfl ?_
      intro w109 hS
      refine seq_do hA rfl rfl rfl (does_assign rfl) ?_
      intro a hA
      refine seq_end ?_
      refine hK107 _ _ ?_
      refine wp_ret ?_
      refine hret _ _ ?_
      refine ends (v := .tuple #[.agg #[.bool false, .slice none 0 0, .slice none 0 0, .bool false, .slice none 0 0, .slice none 0 0], .agg #[.bool false, .slice none 0 0, .slice none 0 0, .bool false, .slice none 0 0, .slice none 0 0], .int .i64 z1.2]) hA rfl (.cons (res_cell hS ExR_isS_26 rfl 4 rfl (cs := [.bool false, .slice none 0 0, .slice none 0 0, .bool false, .slice none 0 0, .slice none 0 0]) rfl rfl) (.cons (res_cell hS ExR_isS_26 rfl 3 rfl (cs := [.bool false, .slice none 0 0, .slice none 0 0, .bool false, .slice none 0 0, .slice none 0 0]) rfl rfl) (.cons (res_tmp rfl) .nil))) rfl ?_
      rw [dmS_1 hb106]
      exact ⟨none, 0, none, 0, none, 0, none, 0, none, 0, none, 0, none, 0, none, 0, rfl, ⟨(Sc.none _), (Sc.none _), (Sc.none _), (Sc.none _)⟩, ⟨(Sc.none _), (Sc.none _), (Sc.none _), (Sc.none _)⟩, hS.bel⟩
    · have hb106' := bne_eq_false_iff_eq.1 hb106
      refine seq_do (v := .bool false) hA rfl rfl rfl (does_bin rfl rfl (fun w => (bin_neq w).trans (by rw [hb106]))) ?_
      intro a hA
      refine seq_end ?_
      refine hK105 _ _ ?_
      refine wp_cond_false (hA.ev rfl) ?_
      refine wp_skip ?_
      refine hK104 _ _ ?_
      refine wp_seq_k (fun K110 hK110 => ?_)
      refine wp_region_lit ?_
      refine seq_do (v := .agg #[.bool ((rb ((R : Nat) : Int))), .slice J60 ((words ((R : Nat) : Int).natAbs).length) J61, .bool false, .slice none 0 0, .slice J62 ((words D).length) J63]) hA rfl rfl rfl (does_loadS hS ExR_isS_48 rfl 0 rfl (cs := [.bool ((rb ((R : Nat) : Int))), .slice J60 ((words ((R : Nat) : Int).natAbs).length) J61, .bool false, .slice none 0 0, .slice J62 ((words D).length) J63]) rfl rfl) ?_
      intro a hA
      refine seq_call hA rfl rfl rfl (enters_func  rfl rfl (fun w => by kernel_rfl)) (zsettle0_as ⟨(hS.rd 5 rfl), hn78, hc79⟩ ⟨(hS.rd 4 rfl), hn76, hc77⟩ e2 (by omega) (by omega) hD0) ?_
      rintro _ w114 ⟨p111_1, p111_c1, p111_2, p111_c2, p111_3, p111_c3, p111_4, p111_c4, rfl, hn112, hb113⟩
      replace hS := hS.call hb113
      replace hS := hS.addR hn112.s1.rd
      replace hS := hS.addR hn112.s2.rd
      replace hS := hS.addR hn112.s3.rd
      replace hS := hS.addR hn112.s4.rd
      refine ⟨_, rfl, ?_⟩
      intro a hA
      refine seq_do hA rfl rfl rfl (does_move rfl) ?_
      intro a hA
      refine seq_do (v := .agg #[.bool z2.1.b1, .slice p111_1 z2.1.t1.length p111_c1, .slice p111_2 z2.1.q1.length p111_c2, .bool z2.1.b2, .slice p111_3 z2.1.t2.length p111_c3, .slice p111_4 z2.1.q2.length p111_c4]) hA rfl rfl rfl (does_extract (vs := [.agg #[.bool z2.1.b1, .slice p111_1 z2.1.t1.length p111_c1, .slice p111_2 z2.1.q1.length p111_c2, .bool z2.1.b2, .slice p111_3 z2.1.t2.length p111_c3, .slice p111_4 z2.1.q2.length p111_c4], .int .i64 z2.2]) rfl rfl) ?_
      intro a hA
      refine seq_do (v := .int .i64 z2.2) hA rfl rfl rfl (does_extract (vs := [.agg #[.bool z2.1.b1, .slice p111_1 z2.1.t1.length p111_c1, .slice p111_2 z2.1.q1.length p111_c2, .bool z2.1.b2, .slice p111_3 z2.1.t2.length p111_c3, .slice p111_4 z2.1.q2.length p111_c4], .int .i64 z2.2]) rfl rfl) ?_
      intro a hA
      refine seq_store (us := [.bool z2.1.b1, .slice p111_1 z2.1.t1.length p111_c1, .slice p111_2 z2.1.q1.length p111_c2, .bool z2.1.b2, .slice p111_3 z2.1.t2.length p111_c3, .slice p111_4 z2.1.q2.length p111_c4]) hA hS rfl rfl (sets_store (cs := [.bool z2.1.b1, .slice p111_1 z2.1.t1.length p111_c1, .slice p111_2 z2.1.q1.length p111_c2, .bool z2.1.b2, .slice p111_3 z2.1.t2.length p111_c3, .slice p111_4 z2.1.q2.length p111_c4]) rfl rfl rfl (by kernel_rfl) hS 3 rfl rfl rfl) 3 rfl rfl rfl rfl ?_
      intro w115 hS
      refine seq_do hA rfl rfl rfl (does_assign rfl) ?_
      intro a hA
      refine seq_end ?_
      refine hK110 _ _ ?_
      refine wp_seq_k (fun K116 hK116 => ?_)
      refine wp_seq_k (fun K117 hK117 => ?_)
      refine wp_region_lit ?_
      refine seq_do hA rfl rfl rfl (does_move rfl) ?_
      intro a hA
      rcases Bool.eq_false_or_eq_true ((z2.2 != 0)) with hb118 | hb118
      · have hb118' := bne_iff_ne.1 hb118
        refine seq_do (v := .bool true) hA rfl rfl rfl (does_bin rfl rfl (fun w => (bin_neq w).trans (by rw [hb118]))) ?_
        intro a hA
        refine seq_end ?_
        refine hK117 _ _ ?_
        refine wp_cond_true (hA.ev rfl) ?_
        refine wp_seq_k (fun K119 hK119 => ?_)
        refine wp_region_lit ?_
        refine seq_do (v := .agg #[.bool false, .slice none 0 0, .slice none 0 0, .bool false, .slice none 0 0, .slice none 0 0]) hA rfl rfl rfl (does_build rfl (fun w => by kernel_rfl)) ?_
        intro a hA
        refine seq_do (v := .agg #[.bool false, .slice none 0 0, .slice none 0 0, .bool false, .slice none 0 0, .slice none 0 0]) hA rfl rfl rfl (does_build rfl (fun w => by kernel_rfl)) ?_
        intro a hA
        refine seq_do hA rfl rfl rfl (does_move rfl) ?_
        intro a hA
        refine seq_store (us := [.bool false, .slice none 0 0, .slice none 0 0, .bool false, .slice none 0 0, .slice none 0 0]) hA hS rfl rfl (sets_store (cs := [.bool false, .slice none 0 0, .slice none 0 0, .bool false, .slice none 0 0, .slice none 0 0]) rfl rfl rfl (by kernel_rfl) hS 4 rfl rfl rfl) 4 rfl rfl rfl rfl ?_
        intro w120 hS
        refine seq_store (us := [.bool false, .slice none 0 0, .slice none 0 0, .bool false, .slice none 0 0, .slice none 0 0]) hA hS rfl rfl (sets_store (cs := [.bool false, .slice none 0 0, .slice none 0 0, .bool false, .slice none 0 0, .slice none 0 0]) rfl rfl rfl (by kernel_rfl) hS 3 rfl rfl rfl) 3 rfl rfl rfl rfl ?_
        intro w121 hS
        refine seq_do hA rfl rfl rfl (does_assign rfl) ?_
        intro a hA
        refine seq_end ?_
        refine hK119 _ _ ?_
        refine wp_ret ?_
        refine hret _ _ ?_
        refine ends (v := .tuple #[.agg #[.bool false, .slice none 0 0, .slice none 0 0, .bool false, .slice none 0 0, .slice none 0 0], .agg #[.bool false, .slice none 0 0, .slice none 0 0, .bool false, .slice none 0 0, .slice none 0 0], .int .i64 z2.2]) hA rfl (.cons (res_cell hS ExR_isS_26 rfl 4 rfl (cs := [.bool false, .slice none 0 0, .slice none 0 0, .bool false, .slice none 0 0, .slice none 0 0]) rfl rfl) (.cons (res_cell hS ExR_isS_26 rfl 3 rfl (cs := [.bool false, .slice none 0 0, .slice none 0 0, .bool false, .slice none 0 0, .slice none 0 0]) rfl rfl) (.cons (res_tmp rfl) .nil))) rfl ?_
        rw [dmS_2 hb106 hb118]
        exact ⟨none, 0, none, 0, none, 0, none, 0, none, 0, none, 0, none, 0, none, 0, rfl, ⟨(Sc.none _), (Sc.none _), (Sc.none _), (Sc.none _)⟩, ⟨(Sc.none _), (Sc.none _), (Sc.none _), (Sc.none _)⟩, hS.bel⟩
      · have hb118' := bne_eq_false_iff_eq.1 hb118
        refine seq_do (v := .bool false) hA rfl rfl rfl (does_bin rfl rfl (fun w => (bin_neq w).trans (by rw [hb118]))) ?_
        intro a hA
        refine seq_end ?_
        refine hK117 _ _ ?_
        refine wp_cond_false (hA.ev rfl) ?_
        refine wp_skip ?_
        refine hK116 _ _ ?_
        refine wp_seq_k (fun K122 hK122 => ?_)
        refine wp_draw (S := fun w1 => St w w1 [(J55g, [.bool ((rb ((R : Nat) : Int))), .slice J60 ((words ((R : Nat) : Int).natAbs).length) J61, .bool false, .slice none 0 0, .slice J62 ((words D).length) J63]), (J54g, [.bool ((rb T)), .slice J56 ((words T.natAbs).length) J57, .bool false, .slice none 0 0, .slice J58 ((words 1).length) J59]), (g12, [.bool (rb u.num), .slice a1 ((words u.num.natAbs).length) ac1, .slice a2 ((words u.den).length) ac2, .bool (rb v.num), .slice a3 ((words v.num.natAbs).length) ac3, .slice a4 ((words v.den).length) ac4, .bool (rb x.num), .slice u1 ((words x.num.natAbs).length) uc1, .slice u2 ((words x.den).length) uc2, .bool (rb y.num), .slice u3 ((words y.num.natAbs).length) uc3, .slice u4 ((words y.den).length) uc4]), (g8, [.bool z2.1.b1, .slice p111_1 z2.1.t1.length p111_c1, .slice p111_2 z2.1.q1.length p111_c2, .bool z2.1.b2, .slice p111_3 z2.1.t2.length p111_c3, .slice p111_4 z2.1.q2.length p111_c4]), (g6, [.bool z1.1.b1, .slice p99_1 z1.1.t1.length p99_c1, .slice p99_2 z1.1.q1.length p99_c2, .bool z1.1.b2, .slice p99_3 z1.1.t2.length p99_c3, .slice p99_4 z1.1.q2.length p99_c4]), (g4, [.bool (rb x.num), .slice u1 ((words x.num.natAbs).length) uc1, .slice u2 ((words x.den).length) uc2, .bool (rb y.num), .slice u3 ((words y.num.natAbs).length) uc3, .slice u4 ((words y.den).length) uc4]), (g2, [.bool (rb u.num), .slice a1 ((words u.num.natAbs).length) ac1, .slice a2 ((words u.den).length) ac2, .bool (rb v.num), .slice a3 ((words v.num.natAbs).length) ac3, .slice a4 ((words v.den).length) ac4])] [(p111_4, z2.1.q2), (p111_3, z2.1.t2), (p111_2, z2.1.q1), (p111_1, z2.1.t1), (p99_4, z1.1.q2), (p99_3, z1.1.t2), (p99_2, z1.1.q1), (p99_1, z1.1.t1), (J62, words D), (J60, words ((R : Nat) : Int).natAbs), (J58, words 1), (J56, words T.natAbs), (J74, words (spD x y)), (J72, words (spY x y).natAbs), (J70, words (spX x y).natAbs), (J68, words (spD u v)), (J66, words (spY u v).natAbs), (J64, words (spX u v).natAbs), (u4, words y.den), (u3, words y.num.natAbs), (u2, words x.den), (u1, words x.num.natAbs), (a4, words v.den), (a3, words v.num.natAbs), (a2, words u.den), (a1, words u.num.natAbs)] []) (by kernel_rfl) ?_
        replace hS := hS.drew
        refine any_take (v := .agg #[.bool z1.1.b1, .slice p99_1 z1.1.t1.length p99_c1, .slice p99_2 z1.1.q1.length p99_c2, .bool z1.1.b2, .slice p99_3 z1.1.t2.length p99_c3, .slice p99_4 z1.1.q2.length p99_c4]) hA 0 rfl rfl rfl rfl (by kernel_rfl) (by kernel_rfl) (by kernel_rfl) (fun c a w h => hP c a _ _ w h) hS (fun w1 hS => does_loadS hS ExR_isS_26 rfl 4 rfl (cs := [.bool z1.1.b1, .slice p99_1 z1.1.t1.length p99_c1, .slice p99_2 z1.1.q1.length p99_c2, .bool z1.1.b2, .slice p99_3 z1.1.t2.length p99_c3, .slice p99_4 z1.1.q2.length p99_c4]) rfl rfl) ?_
        intro a hA
        refine any_take (v := .agg #[.bool z2.1.b1, .slice p111_1 z2.1.t1.length p111_c1, .slice p111_2 z2.1.q1.length p111_c2, .bool z2.1.b2, .slice p111_3 z2.1.t2.length p111_c3, .slice p111_4 z2.1.q2.length p111_c4]) hA 1 rfl rfl rfl rfl (by kernel_rfl) (by kernel_rfl) (by kernel_rfl) (fun c a w h => hP c a _ _ w h) hS (fun w1 hS => does_loadS hS ExR_isS_26 rfl 3 rfl (cs := [.bool z2.1.b1, .slice p111_1 z2.1.t1.length p111_c1, .slice p111_2 z2.1.q1.length p111_c2, .bool z2.1.b2, .slice p111_3 z2.1.t2.length p111_c3, .slice p111_4 z2.1.q2.length p111_c4]) rfl rfl) ?_
        intro a hA
        refine any_one (by kernel_rfl) (op_store (us := [.bool z1.1.b1, .slice p99_1 z1.1.t1.length p99_c1, .slice p99_2 z1.1.q1.length p99_c2, .bool z1.1.b2, .slice p99_3 z1.1.t2.length p99_c3, .slice p99_4 z1.1.q2.length p99_c4]) hA hS 2 rfl rfl rfl (sets_store (cs := [.bool z1.1.b1, .slice p99_1 z1.1.t1.length p99_c1, .slice p99_2 z1.1.q1.length p99_c2, .bool z1.1.b2, .slice p99_3 z1.1.t2.length p99_c3, .slice p99_4 z1.1.q2.length p99_c4]) rfl rfl rfl (by kernel_rfl) hS 4 rfl rfl rfl) 4 rfl rfl rfl rfl ?_)
        intro w123 hS
        refine ⟨hS, ?_⟩
        refine any_one (by kernel_rfl) (op_store (us := [.bool z2.1.b1, .slice p111_1 z2.1.t1.length p111_c1, .slice p111_2 z2.1.q1.length p111_c2, .bool z2.1.b2, .slice p111_3 z2.1.t2.length p111_c3, .slice p111_4 z2.1.q2.length p111_c4]) hA hS 3 rfl rfl rfl (sets_store (cs := [.bool z2.1.b1, .slice p111_1 z2.1.t1.length p111_c1, .slice p111_2 z2.1.q1.length p111_c2, .bool z2.1.b2, .slice p111_3 z2.1.t2.length p111_c3, .slice p111_4 z2.1.q2.length p111_c4]) rfl rfl rfl (by kernel_rfl) hS 3 rfl rfl rfl) 3 rfl rfl rfl rfl ?_)
        intro w124 hS
        refine ⟨hS, ?_⟩
        refine any_take hA 4 rfl rfl rfl rfl (by kernel_rfl) (by kernel_rfl) (by kernel_rfl) (fun c a w h => hP c a _ _ w h) hS (fun w1 hS => does_assign rfl) ?_
        intro a hA
        refine any_end (by kernel_rfl) ?_
        refine hK122 _ _ ?_
        refine wp_ret ?_
        refine hret _ _ ?_
        refine ends (v := .tuple #[.agg #[.bool z1.1.b1, .slice p99_1 z1.1.t1.length p99_c1, .slice p99_2 z1.1.q1.length p99_c2, .bool z1.1.b2, .slice p99_3 z1.1.t2.length p99_c3, .slice p99_4 z1.1.q2.length p99_c4], .agg #[.bool z2.1.b1, .slice p111_1 z2.1.t1.length p111_c1, .slice p111_2 z2.1.q1.length p111_c2, .bool z2.1.b2, .slice p111_3 z2.1.t2.length p111_c3, .slice p111_4 z2.1.q2.length p111_c4], .int .i64 0]) hA rfl (.cons (res_cell hS ExR_isS_26 rfl 4 rfl (cs := [.bool z1.1.b1, .slice p99_1 z1.1.t1.length p99_c1, .slice p99_2 z1.1.q1.length p99_c2, .bool z1.1.b2, .slice p99_3 z1.1.t2.length p99_c3, .slice p99_4 z1.1.q2.length p99_c4]) rfl rfl) (.cons (res_cell hS ExR_isS_26 rfl 3 rfl (cs := [.bool z2.1.b1, .slice p111_1 z2.1.t1.length p111_c1, .slice p111_2 z2.1.q1.length p111_c2, .bool z2.1.b2, .slice p111_3 z2.1.t2.length p111_c3, .slice p111_4 z2.1.q2.length p111_c4]) rfl rfl) (.cons (res_tmp rfl) .nil))) rfl ?_
        rw [dmS_3 hb106 hb118]
        exact ⟨p99_1, p99_c1, p99_2, p99_c2, p99_3, p99_c3, p99_4, p99_c4, p111_1, p111_c1, p111_2, p111_c2, p111_3, p111_c3, p111_4, p111_c4, rfl, ⟨⟨(hS.rd 7 rfl), hn100.s1.nil, hn100.s1.cap⟩, ⟨(hS.rd 6 rfl), hn100.s2.nil, hn100.s2.cap⟩, ⟨(hS.rd 5 rfl), hn100.s3.nil, hn100.s3.cap⟩, ⟨(hS.rd 4 rfl), hn100.s4.nil, hn100.s4.cap⟩⟩, ⟨⟨(hS.rd 3 rfl), hn112.s1.nil, hn112.s1.cap⟩, ⟨(hS.rd 2 rfl), hn112.s2.nil, hn112.s2.cap⟩, ⟨(hS.rd 1 rfl), hn112.s3.nil, hn112.s3.cap⟩, ⟨(hS.rd 0 rfl), hn112.s4.nil, hn112.s4.cap⟩⟩, hS.bel⟩
  refine wp_draw (S := fun w1 => St w w1 [(g12, [.bool (rb u.num), .slice a1 ((words u.num.natAbs).length) ac1, .slice a2 ((words u.den).length) ac2, .bool (rb v.num), .slice a3 ((words v.num.natAbs).length) ac3, .slice a4 ((words v.den).length) ac4, .bool (rb x.num), .slice u1 ((words x.num.natAbs).length) uc1, .slice u2 ((words x.den).length) uc2, .bool (rb y.num), .slice u3 ((words y.num.natAbs).length) uc3, .slice u4 ((words y.den).length) uc4]), (g8, [.bool false, .slice none 0 0, .slice none 0 0, .bool false, .slice none 0 0, .slice none 0 0]), (g6, [.bool false, .slice none 0 0, .slice none 0 0, .bool false, .slice none 0 0, .slice none 0 0]), (g4, [.bool (rb x.num), .slice u1 ((words x.num.natAbs).length) uc1, .slice u2 ((words x.den).length) uc2, .bool (rb y.num), .slice u3 ((words y.num.natAbs).length) uc3, .slice u4 ((words y.den).length) uc4]), (g2, [.bool (rb u.num), .slice a1 ((words u.num.natAbs).length) ac1, .slice a2 ((words u.den).length) ac2, .bool (rb v.num), .slice a3 ((words v.num.natAbs).length) ac3, .slice a4 ((words v.den).length) ac4])] [(u4, words y.den), (u3, words y.num.natAbs), (u2, words x.den), (u1, words x.num.natAbs), (a4, words v.den), (a3, words v.num.natAbs), (a2, words u.den), (a1, words u.num.natAbs)] []) (by kernel_rfl) ?_
  replace hS := hS.drew
  refine any_take (v := .agg #[.bool (rb u.num), .slice a1 ((words u.num.natAbs).length) ac1, .slice a2 ((words u.den).length) ac2, .bool (rb v.num), .slice a3 ((words v.num.natAbs).length) ac3, .slice a4 ((words v.den).length) ac4]) hA 0 rfl rfl rfl rfl (by kernel_rfl) (by kernel_rfl) (by kernel_rfl) (fun c a w h => hP c a _ _ w h) hS (fun w1 hS => does_loadS hS ExR_isS_26 rfl 4 rfl (cs := [.bool (rb u.num), .slice a1 ((words u.num.natAbs).length) ac1, .slice a2 ((words u.den).length) ac2, .bool (rb v.num), .slice a3 ((words v.num.natAbs).length) ac3, .slice a4 ((words v.den).length) ac4]) rfl rfl) ?_
  intro a hA
  refine any_take (v := .agg #[.bool (rb x.num), .slice u1 ((words x.num.natAbs).length) uc1, .slice u2 ((words x.den).length) uc2, .bool (rb y.num), .slice u3 ((words y.num.natAbs).length) uc3, .slice u4 ((words y.den).length) uc4]) hA 2 rfl rfl rfl rfl (by kernel_rfl) (by kernel_rfl) (by kernel_rfl) (fun c a w h => hP c a _ _ w h) hS (fun w1 hS => does_loadS hS ExR_isS_26 rfl 3 rfl (cs := [.bool (rb x.num), .slice u1 ((words x.num.natAbs).length) uc1, .slice u2 ((words x.den).length) uc2, .bool (rb y.num), .slice u3 ((words y.num.natAbs).length) uc3, .slice u4 ((words y.den).length) uc4]) rfl rfl) ?_
  intro a hA
  refine any_many (rs := [1, 8, 9]) (by kernel_rfl) (by simp) ⟨?_, ?_, ?_, trivial⟩
  · refine op_call hA 1 rfl rfl rfl rfl (enters_func  rfl rfl (fun w => by kernel_rfl)) (zspread_any (show Nm _ (Q6.rat u v) a1 ac1 a2 ac2 a3 ac3 a4 ac4 from ⟨⟨(hS.rd 7 rfl), ha.s1.nil, ha.s1.cap⟩, ⟨(hS.rd 6 rfl), ha.s2.nil, ha.s2.cap⟩, ⟨(hS.rd 5 rfl), ha.s3.nil, ha.s3.cap⟩, ⟨(hS.rd 4 rfl), ha.s4.nil, ha.s4.cap⟩⟩) hu hv) ?_
    rintro _ w130 ⟨p125_1, p125_c1, p125_2, p125_c2, p125_3, p125_c3, rfl, hs126, hs127, hs128, hb129⟩
    replace hS := hS.call hb129
    replace hS := hS.addR hs126.rd
    replace hS := hS.addR hs127.rd
    replace hS := hS.addR hs128.rd
    refine ⟨_, rfl, (hS.partD (.refl _) 3 rfl (.refl _)), ?_⟩
    intro a hA
    refine any_many (rs := [3, 8, 9]) (by kernel_rfl) (by simp) ⟨?_, ?_, ?_, trivial⟩
    · refine op_call hA 3 rfl rfl rfl rfl (enters_func  rfl rfl (fun w => by kernel_rfl)) (zspread_any (show Nm _ (Q6.rat x y) u1 uc1 u2 uc2 u3 uc3 u4 uc4 from ⟨⟨(hS.rd 6 rfl), hb.s1.nil, hb.s1.cap⟩, ⟨(hS.rd 5 rfl), hb.s2.nil, hb.s2.cap⟩, ⟨(hS.rd 4 rfl), hb.s3.nil, hb.s3.cap⟩, ⟨(hS.rd 3 rfl), hb.s4.nil, hb.s4.cap⟩⟩) hx hy) ?_
      rintro _ w136 ⟨p131_1, p131_c1, p131_2, p131_c2, p131_3, p131_c3, rfl, hs132, hs133, hs134, hb135⟩
      replace hS := hS.call hb135
      replace hS := hS.addR hs132.rd
      replace hS := hS.addR hs133.rd
      replace hS := hS.addR hs134.rd
      refine ⟨_, rfl, (hS.partD (.refl _) 6 rfl (.refl _)), ?_⟩
      intro a hA
      refine any_many (rs := [4, 8, 9]) (by kernel_rfl) (by simp) ⟨?_, ?_, ?_, trivial⟩
      · refine op_call hA 4 rfl rfl rfl rfl (enters_func  rfl rfl (fun w => by kernel_rfl)) (zdivmod_as ⟨(hS.rd 5 rfl), hs126.nil, hs126.cap⟩ ⟨(hS.rd 4 rfl), hs127.nil, hs127.cap⟩ ⟨(hS.rd 3 rfl), hs128.nil, hs128.cap⟩ ⟨(hS.rd 2 rfl), hs132.nil, hs132.cap⟩ ⟨(hS.rd 1 rfl), hs133.nil, hs133.cap⟩ ⟨(hS.rd 0 rfl), hs134.nil, hs134.cap⟩ (Nat.le_trans (spX_len hu hv) (by decide)) (Nat.le_trans (spY_len hu hv) (by decide)) (Nat.le_trans (spD_len hu hv) (by decide)) (Nat.le_trans (spX_len hx hy) (by decide)) (Nat.le_trans (spY_len hx hy) (by decide)) (Nat.le_trans (spD_len hx hy) (by decide)) (spD_ne u v) hx2 hT hR hD) ?_
        rintro _ w150 ⟨zo137, zc138, uo139, uc140, zo141, zc142, uo143, uc144, rfl, hs145, hs146, hs147, hs148, hb149⟩
        replace hS := hS.call hb149
        replace hS := hS.addR hs145.rd
        replace hS := hS.addR hs146.rd
        replace hS := hS.addR hs147.rd
        replace hS := hS.addR hs148.rd
        refine ⟨_, rfl, (hS.partD (.refl _) 10 rfl (.refl _)), ?_⟩
        intro a hA
        refine any_take hA 5 rfl rfl rfl rfl (by kernel_rfl) (by kernel_rfl) (by kernel_rfl) (fun c a w h => hP c a _ _ w h) (hS.partD (.refl _) 10 rfl (.refl _)) (fun w1 hS => does_move rfl) ?_
        intro a hA
        refine any_take (v := .agg #[.bool ((rb T)), .slice zo137 ((words T.natAbs).length) zc138, .bool false, .slice none 0 0, .slice uo139 ((words 1).length) uc140]) hA 6 rfl rfl rfl rfl (by kernel_rfl) (by kernel_rfl) (by kernel_rfl) (fun c a w h => hP c a _ _ w h) (hS.partD (.refl _) 10 rfl (.refl _)) (fun w1 hS => does_extract (vs := [.agg #[.bool ((rb T)), .slice zo137 ((words T.natAbs).length) zc138, .bool false, .slice none 0 0, .slice uo139 ((words 1).length) uc140], .agg #[.bool ((rb ((R : Nat) : Int))), .slice zo141 ((words ((R : Nat) : Int).natAbs).length) zc142, .bool false, .slice none 0 0, .slice uo143 ((words D).length) uc144]]) rfl rfl) ?_
        intro a hA
        refine any_take (v := .agg #[.bool ((rb ((R : Nat) : Int))), .slice zo141 ((words ((R : Nat) : Int).natAbs).length) zc142, .bool false, .slice none 0 0, .slice uo143 ((words D).length) uc144]) hA 7 rfl rfl rfl rfl (by kernel_rfl) (by kernel_rfl) (by kernel_rfl) (fun c a w h => hP c a _ _ w h) (hS.partD (.refl _) 10 rfl (.refl _)) (fun w1 hS => does_extract (vs := [.agg #[.bool ((rb T)), .slice zo137 ((words T.natAbs).length) zc138, .bool false, .slice none 0 0, .slice uo139 ((words 1).length) uc140], .agg #[.bool ((rb ((R : Nat) : Int))), .slice zo141 ((words ((R : Nat) : Int).natAbs).length) zc142, .bool false, .slice none 0 0, .slice uo143 ((words D).length) uc144]]) rfl rfl) ?_
        intro a hA
        refine any_many (rs := [8, 9]) (by kernel_rfl) (by simp) ⟨?_, ?_, trivial⟩
        · refine op_new (vs := [.bool false, .slice none 0 0, .bool false, .slice none 0 0, .slice none 0 0]) (t := 48) hA hS 8 rfl rfl rfl rfl (fun g => .pointer (some ⟨g, 0, none⟩)) (does_alloc (z := .agg #[.bool false, .slice none 0 0, .bool false, .slice none 0 0, .slice none 0 0]) (by kernel_rfl) rfl) rfl ?_
          intro g151 w152 hS
          refine ⟨(hS.partD (.cons _ (.cons_cons _ (.cons_cons _ (.cons_cons _ (.cons_cons _ (.cons_cons _ .slnil)))))) 10 rfl (.refl _)), ?_⟩
          intro a hA
          refine any_one (by kernel_rfl) (op_new (vs := [.bool false, .slice none 0 0, .bool false, .slice none 0 0, .slice none 0 0]) (t := 48) hA hS 9 rfl rfl rfl rfl (fun g => .pointer (some ⟨g, 0, none⟩)) (does_alloc (z := .agg #[.bool false, .slice none 0 0, .bool false, .slice none 0 0, .slice none 0 0]) (by kernel_rfl) rfl) rfl ?_)
          intro g153 w154 hS
          refine ⟨(hS.partD (.cons _ (.cons _ (.cons_cons _ (.cons_cons _ (.cons_cons _ (.cons_cons _ (.cons_cons _ .slnil))))))) 10 rfl (.refl _)), ?_⟩
          intro a hA
          refine any_one (by kernel_rfl) (op_store (us := [.bool ((rb T)), .slice zo137 ((words T.natAbs).length) zc138, .bool false, .slice none 0 0, .slice uo139 ((words 1).length) uc140]) hA hS 10 rfl rfl rfl (sets_store (cs := [.bool ((rb T)), .slice zo137 ((words T.natAbs).length) zc138, .bool false, .slice none 0 0, .slice uo139 ((words 1).length) uc140]) rfl rfl rfl (by kernel_rfl) hS 1 rfl rfl rfl) 1 rfl rfl rfl rfl ?_)
          intro w155 hS
          refine ⟨(hS.partD (.cons _ (.cons _ (.cons_cons _ (.cons_cons _ (.cons_cons _ (.cons_cons _ (.cons_cons _ .slnil))))))) 10 rfl (.refl _)), ?_⟩
          refine any_one (by kernel_rfl) (op_store (us := [.bool ((rb ((R : Nat) : Int))), .slice zo141 ((words ((R : Nat) : Int).natAbs).length) zc142, .bool false, .slice none 0 0, .slice uo143 ((words D).length) uc144]) hA hS 11 rfl rfl rfl (sets_store (cs := [.bool ((rb ((R : Nat) : Int))), .slice zo141 ((words ((R : Nat) : Int).natAbs).length) zc142, .bool false, .slice none 0 0, .slice uo143 ((words D).length) uc144]) rfl rfl rfl (by kernel_rfl) hS 0 rfl rfl rfl) 0 rfl rfl rfl rfl ?_)
          intro w156 hS
          refine ⟨(hS.partD (.cons _ (.cons _ (.cons_cons _ (.cons_cons _ (.cons_cons _ (.cons_cons _ (.cons_cons _ .slnil))))))) 10 rfl (.refl _)), ?_⟩
          refine any_end (by kernel_rfl) ?_
          refine hJ96 _ _ ⟨g151, g153, zo137, zc138, uo139, uc140, zo141, zc142, uo143, uc144, p125_1, p125_c1, p125_2, p125_c2, p125_3, p125_c3, p131_1, p131_c1, p131_2, p131_c2, p131_3, p131_c3, hA.keep _ ⟨rfl, rfl, rfl, rfl, rfl, rfl, rfl, rfl, rfl, rfl, rfl, rfl, rfl, rfl, rfl, rfl, rfl, rfl, rfl, rfl, rfl, rfl, rfl, rfl, rfl, rfl, trivial⟩, ((hS.pickR [(uo143, words D), (zo141, words ((R : Nat) : Int).natAbs), (uo139, words 1), (zo137, words T.natAbs), (p131_3, words (spD x y)), (p131_2, words (spY x y).natAbs), (p131_1, words (spX x y).natAbs), (p125_3, words (spD u v)), (p125_2, words (spY u v).natAbs), (p125_1, words (spX u v).natAbs), (u4, words y.den), (u3, words y.num.natAbs), (u2, words x.den), (u1, words x.num.natAbs), (a4, words v.den), (a3, words v.num.natAbs), (a2, words u.den), (a1, words u.num.natAbs)] ⟨⟨0, rfl⟩, ⟨⟨1, rfl⟩, ⟨⟨2, rfl⟩, ⟨⟨3, rfl⟩, ⟨⟨4, rfl⟩, ⟨⟨5, rfl⟩, ⟨⟨6, rfl⟩, ⟨⟨7, rfl⟩, ⟨⟨8, rfl⟩, ⟨⟨9, rfl⟩, ⟨⟨10, rfl⟩, ⟨⟨11, rfl⟩, ⟨⟨12, rfl⟩, ⟨⟨13, rfl⟩, ⟨⟨14, rfl⟩, ⟨⟨15, rfl⟩, ⟨⟨16, rfl⟩, ⟨⟨17, rfl⟩, trivial⟩⟩⟩⟩⟩⟩⟩⟩⟩⟩⟩⟩⟩⟩⟩⟩⟩⟩).pickL [(g153, [.bool ((rb ((R : Nat) : Int))), .slice zo141 ((words ((R : Nat) : Int).natAbs).length) zc142, .bool false, .slice none 0 0, .slice uo143 ((words D).length) uc144]), (g151, [.bool ((rb T)), .slice zo137 ((words T.natAbs).length) zc138, .bool false, .slice none 0 0, .slice uo139 ((words 1).length) uc140]), (g12, [.bool (rb u.num), .slice a1 ((words u.num.natAbs).length) ac1, .slice a2 ((words u.den).length) ac2, .bool (rb v.num), .slice a3 ((words v.num.natAbs).length) ac3, .slice a4 ((words v.den).length) ac4, .bool (rb x.num), .slice u1 ((words x.num.natAbs).length) uc1, .slice u2 ((words x.den).length) uc2, .bool (rb y.num), .slice u3 ((words y.num.natAbs).length) uc3, .slice u4 ((words y.den).length) uc4]), (g8, [.bool false, .slice none 0 0, .slice none 0 0, .bool false, .slice none 0 0, .slice none 0 0]), (g6, [.bool false, .slice none 0 0, .slice none 0 0, .bool false, .slice none 0 0, .slice none 0 0]), (g4, [.bool (rb x.num), .slice u1 ((words x.num.natAbs).length) uc1, .slice u2 ((words x.den).length) uc2, .bool (rb y.num), .slice u3 ((words y.num.natAbs).length) uc3, .slice u4 ((words y.den).length) uc4]), (g2, [.bool (rb u.num), .slice a1 ((words u.num.natAbs).length) ac1, .slice a2 ((words u.den).length) ac2, .bool (rb v.num), .slice a3 ((words v.num.natAbs).length) ac3, .slice a4 ((words v.den).length) ac4])] [0, 1, 2, 3, 4, 5, 6] rfl (by decide)), hs148.nil, hs148.cap, hs147.nil, hs147.cap, hs146.nil, hs146.cap, hs145.nil, hs145.cap, hs134.nil, hs134.cap, hs133.nil, hs133.cap, hs132.nil, hs132.cap, hs128.nil, hs128.cap, hs127.nil, hs127.cap, hs126.nil, hs126.cap⟩
        · refine op_new (vs := [.bool false, .slice none 0 0, .bool false, .slice none 0 0, .slice none 0 0]) (t := 48) hA hS 9 rfl rfl rfl rfl (fun g => .pointer (some ⟨g, 0, none⟩)) (does_alloc (z := .agg #[.bool false, .slice none 0 0, .bool false, .slice none 0 0, .slice none 0 0]) (by kernel_rfl) rfl) rfl ?_
          intro g157 w158 hS
          refine ⟨(hS.partD (.cons _ (.cons_cons _ (.cons_cons _ (.cons_cons _ (.cons_cons _ (.cons_cons _ .slnil)))))) 10 rfl (.refl _)), ?_⟩
          intro a hA
          refine any_one (by kernel_rfl) (op_new (vs := [.bool false, .slice none 0 0, .bool false, .slice none 0 0, .slice none 0 0]) (t := 48) hA hS 8 rfl rfl rfl rfl (fun g => .pointer (some ⟨g, 0, none⟩)) (does_alloc (z := .agg #[.bool false, .slice none 0 0, .bool false, .slice none 0 0, .slice none 0 0]) (by kernel_rfl) rfl) rfl ?_)
          intro g159 w160 hS
          refine ⟨(hS.partD (.cons _ (.cons _ (.cons_cons _ (.cons_cons _ (.cons_cons _ (.cons_cons _ (.cons_cons _ .slnil))))))) 10 rfl (.refl _)), ?_⟩
          intro a hA
          refine any_one (by kernel_rfl) (op_store (us := [.bool ((rb T)), .slice zo137 ((words T.natAbs).length) zc138, .bool false, .slice none 0 0, .slice uo139 ((words 1).length) uc140]) hA hS 10 rfl rfl rfl (sets_store (cs := [.bool ((rb T)), .slice zo137 ((words T.natAbs).length) zc138, .bool false, .slice none 0 0, .slice uo139 ((words 1).length) uc140]) rfl rfl rfl (by kernel_rfl) hS 0 rfl rfl rfl) 0 rfl rfl rfl rfl ?_)
          intro w161 hS
          refine ⟨(hS.partD (.cons _ (.cons _ (.cons_cons _ (.cons_cons _ (.cons_cons _ (.cons_cons _ (.cons_cons _ .slnil))))))) 10 rfl (.refl _)), ?_⟩
          refine any_one (by kernel_rfl) (op_store (us := [.bool ((rb ((R : Nat) : Int))), .slice zo141 ((words ((R : Nat) : Int).natAbs).length) zc142, .bool false, .slice none 0 0, .slice uo143 ((words D).length) uc144]) hA hS 11 rfl rfl rfl (sets_store (cs := [.bool ((rb ((R : Nat) : Int))), .slice zo141 ((words ((R : Nat) : Int).natAbs).length) zc142, .bool false, .slice none 0 0, .slice uo143 ((words D).length) uc144]) rfl rfl rfl (by kernel_rfl) hS 1 rfl rfl rfl) 1 rfl rfl rfl rfl ?_)
          intro w162 hS
          refine ⟨(hS.partD (.cons _ (.cons _ (.cons_cons _ (.cons_cons _ (.cons_cons _ (.cons_cons _ (.cons_cons _ .slnil))))))) 10 rfl (.refl _)), ?_⟩
          refine any_end (by kernel_rfl) ?_
          refine hJ96 _ _ ⟨g159, g157, zo137, zc138, uo139, uc140, zo141, zc142, uo143, uc144, p125_1, p125_c1, p125_2, p125_c2, p125_3, p125_c3, p131_1, p131_c1, p131_2, p131_c2, p131_3, p131_c3, hA.keep _ ⟨rfl, rfl, rfl, rfl, rfl, rfl, rfl, rfl, rfl, rfl, rfl, rfl, rfl, rfl, rfl, rfl, rfl, rfl, rfl, rfl, rfl, rfl, rfl, rfl, rfl, rfl, trivial⟩, ((hS.pickR [(uo143, words D), (zo141, words ((R : Nat) : Int).natAbs), (uo139, words 1), (zo137, words T.natAbs), (p131_3, words (spD x y)), (p131_2, words (spY x y).natAbs), (p131_1, words (spX x y).natAbs), (p125_3, words (spD u v)), (p125_2, words (spY u v).natAbs), (p125_1, words (spX u v).natAbs), (u4, words y.den), (u3, words y.num.natAbs), (u2, words x.den), (u1, words x.num.natAbs), (a4, words v.den), (a3, words v.num.natAbs), (a2, words u.den), (a1, words u.num.natAbs)] ⟨⟨0, rfl⟩, ⟨⟨1, rfl⟩, ⟨⟨2, rfl⟩, ⟨⟨3, rfl⟩, ⟨⟨4, rfl⟩, ⟨⟨5, rfl⟩, ⟨⟨6, rfl⟩, ⟨⟨7, rfl⟩, ⟨⟨8, rfl⟩, ⟨⟨9, rfl⟩, ⟨⟨10, rfl⟩, ⟨⟨11, rfl⟩, ⟨⟨12, rfl⟩, ⟨⟨13, rfl⟩, ⟨⟨14, rfl⟩, ⟨⟨15, rfl⟩, ⟨⟨16, rfl⟩, ⟨⟨17, rfl⟩, trivial⟩⟩⟩⟩⟩⟩⟩⟩⟩⟩⟩⟩⟩⟩⟩⟩⟩⟩).pickL [(g157, [.bool ((rb ((R : Nat) : Int))), .slice zo141 ((words ((R : Nat) : Int).natAbs).length) zc142, .bool false, .slice none 0 0, .slice uo143 ((words D).length) uc144]), (g159, [.bool ((rb T)), .slice zo137 ((words T.natAbs).length) zc138, .bool false, .slice none 0 0, .slice uo139 ((words 1).length) uc140]), (g12, [.bool (rb u.num), .slice a1 ((words u.num.natAbs).length) ac1, .slice a2 ((words u.den).length) ac2, .bool (rb v.num), .slice a3 ((words v.num.natAbs).length) ac3, .slice a4 ((words v.den).length) ac4, .bool (rb x.num), .slice u1 ((words x.num.natAbs).length) uc1, .slice u2 ((words x.den).length) uc2, .bool (rb y.num), .slice u3 ((words y.num.natAbs).length) uc3, .slice u4 ((words y.den).length) uc4]), (g8, [.bool false, .slice none 0 0, .slice none 0 0, .bool false, .slice none 0 0, .slice none 0 0]), (g6, [.bool false, .slice none 0 0, .slice none 0 0, .bool false, .slice none 0 0, .slice none 0 0]), (g4, [.bool (rb x.num), .slice u1 ((words x.num.natAbs).length) uc1, .slice u2 ((words x.den).length) uc2, .bool (rb y.num), .slice u3 ((words y.num.natAbs).length) uc3, .slice u4 ((words y.den).length) uc4]), (g2, [.bool (rb u.num), .slice a1 ((words u.num.natAbs).length) ac1, .slice a2 ((words u.den).length) ac2, .bool (rb v.num), .slice a3 ((words v.num.natAbs).length) ac3, .slice a4 ((words v.den).length) ac4])] [1, 0, 2, 3, 4, 5, 6] rfl (by decide)), hs148.nil, hs148.cap, hs147.nil, hs147.cap, hs146.nil, hs146.cap, hs145.nil, hs145.cap, hs134.nil, hs134.cap, hs133.nil, hs133.cap, hs132.nil, hs132.cap, hs128.nil, hs128.cap, hs127.nil, hs127.cap, hs126.nil, hs126.cap⟩
      · refine op_new (vs := [.bool false, .slice none 0 0, .bool false, .slice none 0 0, .slice none 0 0]) (t := 48) hA hS 8 rfl rfl rfl rfl (fun g => .pointer (some ⟨g, 0, none⟩)) (does_alloc (z := .agg #[.bool false, .slice none 0 0, .bool false, .slice none 0 0, .slice none 0 0]) (by kernel_rfl) rfl) rfl ?_
        intro g163 w164 hS
        refine ⟨(hS.partD (.cons _ (.cons_cons _ (.cons_cons _ (.cons_cons _ (.cons_cons _ (.cons_cons _ .slnil)))))) 6 rfl (.refl _)), ?_⟩
        intro a hA
        refine any_many (rs := [4, 9]) (by kernel_rfl) (by simp) ⟨?_, ?_, trivial⟩
        · refine op_call hA 4 rfl rfl rfl rfl (enters_func  rfl rfl (fun w => by kernel_rfl)) (zdivmod_as ⟨(hS.rd 5 rfl), hs126.nil, hs126.cap⟩ ⟨(hS.rd 4 rfl), hs127.nil, hs127.cap⟩ ⟨(hS.rd 3 rfl), hs128.nil, hs128.cap⟩ ⟨(hS.rd 2 rfl), hs132.nil, hs132.cap⟩ ⟨(hS.rd 1 rfl), hs133.nil, hs133.cap⟩ ⟨(hS.rd 0 rfl), hs134.nil, hs134.cap⟩ (Nat.le_trans (spX_len hu hv) (by decide)) (Nat.le_trans (spY_len hu hv) (by decide)) (Nat.le_trans (spD_len hu hv) (by decide)) (Nat.le_trans (spX_len hx hy) (by decide)) (Nat.le_trans (spY_len hx hy) (by decide)) (Nat.le_trans (spD_len hx hy) (by decide)) (spD_ne u v) hx2 hT hR hD) ?_
          rintro _ w178 ⟨zo165, zc166, uo167, uc168, zo169, zc170, uo171, uc172, rfl, hs173, hs174, hs175, hs176, hb177⟩
          replace hS := hS.call hb177
          replace hS := hS.addR hs173.rd
          replace hS := hS.addR hs174.rd
          replace hS := hS.addR hs175.rd
          replace hS := hS.addR hs176.rd
          refine ⟨_, rfl, (hS.partD (.cons _ (.cons_cons _ (.cons_cons _ (.cons_cons _ (.cons_cons _ (.cons_cons _ .slnil)))))) 10 rfl (.refl _)), ?_⟩
          intro a hA
          refine any_take hA 5 rfl rfl rfl rfl (by kernel_rfl) (by kernel_rfl) (by kernel_rfl) (fun c a w h => hP c a _ _ w h) (hS.partD (.cons _ (.cons_cons _ (.cons_cons _ (.cons_cons _ (.cons_cons _ (.cons_cons _ .slnil)))))) 10 rfl (.refl _)) (fun w1 hS => does_move rfl) ?_
          intro a hA
          refine any_take (v := .agg #[.bool ((rb T)), .slice zo165 ((words T.natAbs).length) zc166, .bool false, .slice none 0 0, .slice uo167 ((words 1).length) uc168]) hA 6 rfl rfl rfl rfl (by kernel_rfl) (by kernel_rfl) (by kernel_rfl) (fun c a w h => hP c a _ _ w h) (hS.partD (.cons _ (.cons_cons _ (.cons_cons _ (.cons_cons _ (.cons_cons _ (.cons_cons _ .slnil)))))) 10 rfl (.refl _)) (fun w1 hS => does_extract (vs := [.agg #[.bool ((rb T)), .slice zo165 ((words T.natAbs).length) zc166, .bool false, .slice none 0 0, .slice uo167 ((words 1).length) uc168], .agg #[.bool ((rb ((R : Nat) : Int))), .slice zo169 ((words ((R : Nat) : Int).natAbs).length) zc170, .bool false, .slice none 0 0, .slice uo171 ((words D).length) uc172]]) rfl rfl) ?_
          intro a hA
          refine any_take (v := .agg #[.bool ((rb ((R : Nat) : Int))), .slice zo169 ((words ((R : Nat) : Int).natAbs).length) zc170, .bool false, .slice none 0 0, .slice uo171 ((words D).length) uc172]) hA 7 rfl rfl rfl rfl (by kernel_rfl) (by kernel_rfl) (by kernel_rfl) (fun c a w h => hP c a _ _ w h) (hS.partD (.cons _ (.cons_cons _ (.cons_cons _ (.cons_cons _ (.cons_cons _ (.cons_cons _ .slnil)))))) 10 rfl (.refl _)) (fun w1 hS => does_extract (vs := [.agg #[.bool ((rb T)), .slice zo165 ((words T.natAbs).length) zc166, .bool false, .slice none 0 0, .slice uo167 ((words 1).length) uc168], .agg #[.bool ((rb ((R : Nat) : Int))), .slice zo169 ((words ((R : Nat) : Int).natAbs).length) zc170, .bool false, .slice none 0 0, .slice uo171 ((words D).length) uc172]]) rfl rfl) ?_
          intro a hA
          refine any_one (by kernel_rfl) (op_new (vs := [.bool false, .slice none 0 0, .bool false, .slice none 0 0, .slice none 0 0]) (t := 48) hA hS 9 rfl rfl rfl rfl (fun g => .pointer (some ⟨g, 0, none⟩)) (does_alloc (z := .agg #[.bool false, .slice none 0 0, .bool false, .slice none 0 0, .slice none 0 0]) (by kernel_rfl) rfl) rfl ?_)
          intro g179 w180 hS
          refine ⟨(hS.partD (.cons _ (.cons _ (.cons_cons _ (.cons_cons _ (.cons_cons _ (.cons_cons _ (.cons_cons _ .slnil))))))) 10 rfl (.refl _)), ?_⟩
          intro a hA
          refine any_one (by kernel_rfl) (op_store (us := [.bool ((rb T)), .slice zo165 ((words T.natAbs).length) zc166, .bool false, .slice none 0 0, .slice uo167 ((words 1).length) uc168]) hA hS 10 rfl rfl rfl (sets_store (cs := [.bool ((rb T)), .slice zo165 ((words T.natAbs).length) zc166, .bool false, .slice none 0 0, .slice uo167 ((words 1).length) uc168]) rfl rfl rfl (by kernel_rfl) hS 1 rfl rfl rfl) 1 rfl rfl rfl rfl ?_)
          intro w181 hS
          refine ⟨(hS.partD (.cons _ (.cons _ (.cons_cons _ (.cons_cons _ (.cons_cons _ (.cons_cons _ (.cons_cons _ .slnil))))))) 10 rfl (.refl _)), ?_⟩
          refine any_one (by kernel_rfl) (op_store (us := [.bool ((rb ((R : Nat) : Int))), .slice zo169 ((words ((R : Nat) : Int).natAbs).length) zc170, .bool false, .slice none 0 0, .slice uo171 ((words D).length) uc172]) hA hS 11 rfl rfl rfl (sets_store (cs := [.bool ((rb ((R : Nat) : Int))), .slice zo169 ((words ((R : Nat) : Int).natAbs).length) zc170, .bool false, .slice none 0 0, .slice uo171 ((words D).length) uc172]) rfl rfl rfl (by kernel_rfl) hS 0 rfl rfl rfl) 0 rfl rfl rfl rfl ?_)
          intro w182 hS
          refine ⟨(hS.partD (.cons _ (.cons _ (.cons_cons _ (.cons_cons _ (.cons_cons _ (.cons_cons _ (.cons_cons _ .slnil))))))) 10 rfl (.refl _)), ?_⟩
          refine any_end (by kernel_rfl) ?_
          refine hJ96 _ _ ⟨g163, g179, zo165, zc166, uo167, uc168, zo169, zc170, uo171, uc172, p125_1, p125_c1, p125_2, p125_c2, p125_3, p125_c3, p131_1, p131_c1, p131_2, p131_c2, p131_3, p131_c3, hA.keep _ ⟨rfl, rfl, rfl, rfl, rfl, rfl, rfl, rfl, rfl, rfl, rfl, rfl, rfl, rfl, rfl, rfl, rfl, rfl, rfl, rfl, rfl, rfl, rfl, rfl, rfl, rfl, trivial⟩, ((hS.pickR [(uo171, words D), (zo169, words ((R : Nat) : Int).natAbs), (uo167, words 1), (zo165, words T.natAbs), (p131_3, words (spD x y)), (p131_2, words (spY x y).natAbs), (p131_1, words (spX x y).natAbs), (p125_3, words (spD u v)), (p125_2, words (spY u v).natAbs), (p125_1, words (spX u v).natAbs), (u4, words y.den), (u3, words y.num.natAbs), (u2, words x.den), (u1, words x.num.natAbs), (a4, words v.den), (a3, words v.num.natAbs), (a2, words u.den), (a1, words u.num.natAbs)] ⟨⟨0, rfl⟩, ⟨⟨1, rfl⟩, ⟨⟨2, rfl⟩, ⟨⟨3, rfl⟩, ⟨⟨4, rfl⟩, ⟨⟨5, rfl⟩, ⟨⟨6, rfl⟩, ⟨⟨7, rfl⟩, ⟨⟨8, rfl⟩, ⟨⟨9, rfl⟩, ⟨⟨10, rfl⟩, ⟨⟨11, rfl⟩, ⟨⟨12, rfl⟩, ⟨⟨13, rfl⟩, ⟨⟨14, rfl⟩, ⟨⟨15, rfl⟩, ⟨⟨16, rfl⟩, ⟨⟨17, rfl⟩, trivial⟩⟩⟩⟩⟩⟩⟩⟩⟩⟩⟩⟩⟩⟩⟩⟩⟩⟩).pickL [(g179, [.bool ((rb ((R : Nat) : Int))), .slice zo169 ((words ((R : Nat) : Int).natAbs).length) zc170, .bool false, .slice none 0 0, .slice uo171 ((words D).length) uc172]), (g163, [.bool ((rb T)), .slice zo165 ((words T.natAbs).length) zc166, .bool false, .slice none 0 0, .slice uo167 ((words 1).length) uc168]), (g12, [.bool (rb u.num), .slice a1 ((words u.num.natAbs).length) ac1, .slice a2 ((words u.den).length) ac2, .bool (rb v.num), .slice a3 ((words v.num.natAbs).length) ac3, .slice a4 ((words v.den).length) ac4, .bool (rb x.num), .slice u1 ((words x.num.natAbs).length) uc1, .slice u2 ((words x.den).length) uc2, .bool (rb y.num), .slice u3 ((words y.num.natAbs).length) uc3, .slice u4 ((words y.den).length) uc4]), (g8, [.bool false, .slice none 0 0, .slice none 0 0, .bool false, .slice none 0 0, .slice none 0 0]), (g6, [.bool false, .slice none 0 0, .slice none 0 0, .bool false, .slice none 0 0, .slice none 0 0]), (g4, [.bool (rb x.num), .slice u1 ((words x.num.natAbs).length) uc1, .slice u2 ((words x.den).length) uc2, .bool (rb y.num), .slice u3 ((words y.num.natAbs).length) uc3, .slice u4 ((words y.den).length) uc4]), (g2, [.bool (rb u.num), .slice a1 ((words u.num.natAbs).length) ac1, .slice a2 ((words u.den).length) ac2, .bool (rb v.num), .slice a3 ((words v.num.natAbs).length) ac3, .slice a4 ((words v.den).length) ac4])] [0, 1, 2, 3, 4, 5, 6] rfl (by decide)), hs176.nil, hs176.cap, hs175.nil, hs175.cap, hs174.nil, hs174.cap, hs173.nil, hs173.cap, hs134.nil, hs134.cap, hs133.nil, hs133.cap, hs132.nil, hs132.cap, hs128.nil, hs128.cap, hs127.nil, hs127.cap, hs126.nil, hs126.cap⟩
        · refine op_new (vs := [.bool false, .slice none 0 0, .bool false, .slice none 0 0, .slice none 0 0]) (t := 48) hA hS 9 rfl rfl rfl rfl (fun g => .pointer (some ⟨g, 0, none⟩)) (does_alloc (z := .agg #[.bool false, .slice none 0 0, .bool false, .slice none 0 0, .slice none 0 0]) (by kernel_rfl) rfl) rfl ?_
          intro g183 w184 hS
          refine ⟨(hS.partD (.cons _ (.cons _ (.cons_cons _ (.cons_cons _ (.cons_cons _ (.cons_cons _ (.cons_cons _ .slnil))))))) 6 rfl (.refl _)), ?_⟩
          intro a hA
          refine any_one (by kernel_rfl) (op_call hA 4 rfl rfl rfl rfl (enters_func  rfl rfl (fun w => by kernel_rfl)) (zdivmod_as ⟨(hS.rd 5 rfl), hs126.nil, hs126.cap⟩ ⟨(hS.rd 4 rfl), hs127.nil, hs127.cap⟩ ⟨(hS.rd 3 rfl), hs128.nil, hs128.cap⟩ ⟨(hS.rd 2 rfl), hs132.nil, hs132.cap⟩ ⟨(hS.rd 1 rfl), hs133.nil, hs133.cap⟩ ⟨(hS.rd 0 rfl), hs134.nil, hs134.cap⟩ (Nat.le_trans (spX_len hu hv) (by decide)) (Nat.le_trans (spY_len hu hv) (by decide)) (Nat.le_trans (spD_len hu hv) (by decide)) (Nat.le_trans (spX_len hx hy) (by decide)) (Nat.le_trans (spY_len hx hy) (by decide)) (Nat.le_trans (spD_len hx hy) (by decide)) (spD_ne u v) hx2 hT hR hD) ?_)
          rintro _ w198 ⟨zo185, zc186, uo187, uc188, zo189, zc190, uo191, uc192, rfl, hs193, hs194, hs195, hs196, hb197⟩
          replace hS := hS.call hb197
          replace hS := hS.addR hs193.rd
          replace hS := hS.addR hs194.rd
          replace hS := hS.addR hs195.rd
          replace hS := hS.addR hs196.rd
          refine ⟨_, rfl, (hS.partD (.cons _ (.cons _ (.cons_cons _ (.cons_cons _ (.cons_cons _ (.cons_cons _ (.cons_cons _ .slnil))))))) 10 rfl (.refl _)), ?_⟩
          intro a hA
          refine any_take hA 5 rfl rfl rfl rfl (by kernel_rfl) (by kernel_rfl) (by kernel_rfl) (fun c a w h => hP c a _ _ w h) (hS.partD (.cons _ (.cons _ (.cons_cons _ (.cons_cons _ (.cons_cons _ (.cons_cons _ (.cons_cons _ .slnil))))))) 10 rfl (.refl _)) (fun w1 hS => does_move rfl) ?_
          intro a hA
          refine any_take (v := .agg #[.bool ((rb T)), .slice zo185 ((words T.natAbs).length) zc186, .bool false, .slice none 0 0, .slice uo187 ((words 1).length) uc188]) hA 6 rfl rfl rfl rfl (by kernel_rfl) (by kernel_rfl) (by kernel_rfl) (fun c a w h => hP c a _ _ w h) (hS.partD (.cons _ (.cons _ (.cons_cons _ (.cons_cons _ (.cons_cons _ (.cons_cons _ (.cons_cons _ .slnil))))))) 10 rfl (.refl _)) (fun w1 hS => does_extract (vs := [.agg #[.bool ((rb T)), .slice zo185 ((words T.natAbs).length) zc186, .bool false, .slice none 0 0, .slice uo187 ((words 1).length) uc188], .agg #[.bool ((rb ((R : Nat) : Int))), .slice zo189 ((words ((R : Nat) : Int).natAbs).length) zc190, .bool false, .slice none 0 0, .slice uo191 ((words D).length) uc192]]) rfl rfl) ?_
          intro a hA
          refine any_take (v := .agg #[.bool ((rb ((R : Nat) : Int))), .slice zo189 ((words ((R : Nat) : Int).natAbs).length) zc190, .bool false, .slice none 0 0, .slice uo191 ((words D).length) uc192]) hA 7 rfl rfl rfl rfl (by kernel_rfl) (by kernel_rfl) (by kernel_rfl) (fun c a w h => hP c a _ _ w h) (hS.partD (.cons _ (.cons _ (.cons_cons _ (.cons_cons _ (.cons_cons _ (.cons_cons _ (.cons_cons _ .slnil))))))) 10 rfl (.refl _)) (fun w1 hS => does_extract (vs := [.agg #[.bool ((rb T)), .slice zo185 ((words T.natAbs).length) zc186, .bool false, .slice none 0 0, .slice uo187 ((words 1).length) uc188], .agg #[.bool ((rb ((R : Nat) : Int))), .slice zo189 ((words ((R : Nat) : Int).natAbs).length) zc190, .bool false, .slice none 0 0, .slice uo191 ((words D).length) uc192]]) rfl rfl) ?_
          intro a hA
          refine any_one (by kernel_rfl) (op_store (us := [.bool ((rb T)), .slice zo185 ((words T.natAbs).length) zc186, .bool false, .slice none 0 0, .slice uo187 ((words 1).length) uc188]) hA hS 10 rfl rfl rfl (sets_store (cs := [.bool ((rb T)), .slice zo185 ((words T.natAbs).length) zc186, .bool false, .slice none 0 0, .slice uo187 ((words 1).length) uc188]) rfl rfl rfl (by kernel_rfl) hS 1 rfl rfl rfl) 1 rfl rfl rfl rfl ?_)
          intro w199 hS
          refine ⟨(hS.partD (.cons _ (.cons _ (.cons_cons _ (.cons_cons _ (.cons_cons _ (.cons_cons _ (.cons_cons _ .slnil))))))) 10 rfl (.refl _)), ?_⟩
          refine any_one (by kernel_rfl) (op_store (us := [.bool ((rb ((R : Nat) : Int))), .slice zo189 ((words ((R : Nat) : Int).natAbs).length) zc190, .bool false, .slice none 0 0, .slice uo191 ((words D).length) uc192]) hA hS 11 rfl rfl rfl (sets_store (cs := [.bool ((rb ((R : Nat) : Int))), .slice zo189 ((words ((R : Nat) : Int).natAbs).length) zc190, .bool false, .slice none 0 0, .slice uo191 ((words D).length) uc192]) rfl rfl rfl (by kernel_rfl) hS 0 rfl rfl rfl) 0 rfl rfl rfl rfl ?_)
          intro w200 hS
          refine ⟨(hS.partD (.cons _ (.cons _ (.cons_cons _ (.cons_cons _ (.cons_cons _ (.cons_cons _ (.cons_cons _ .slnil))))))) 10 rfl (.refl _)), ?_⟩
          refine any_end (by kernel_rfl) ?_
          refine hJ96 _ _ ⟨g163, g183, zo185, zc186, uo187, uc188, zo189, zc190, uo191, uc192, p125_1, p125_c1, p125_2, p125_c2, p125_3, p125_c3, p131_1, p131_c1, p131_2, p131_c2, p131_3, p131_c3, hA.keep _ ⟨rfl, rfl, rfl, rfl, rfl, rfl, rfl, rfl, rfl, rfl, rfl, rfl, rfl, rfl, rfl, rfl, rfl, rfl, rfl, rfl, rfl, rfl, rfl, rfl, rfl, rfl, trivial⟩, ((hS.pickR [(uo191, words D), (zo189, words ((R : Nat) : Int).natAbs), (uo187, words 1), (zo185, words T.natAbs), (p131_3, words (spD x y)), (p131_2, words (spY x y).natAbs), (p131_1, words (spX x y).natAbs), (p125_3, words (spD u v)), (p125_2, words (spY u v).natAbs), (p125_1, words (spX u v).natAbs), (u4, words y.den), (u3, words y.num.natAbs), (u2, words x.den), (u1, words x.num.natAbs), (a4, words v.den), (a3, words v.num.natAbs), (a2, words u.den), (a1, words u.num.natAbs)] ⟨⟨0, rfl⟩, ⟨⟨1, rfl⟩, ⟨⟨2, rfl⟩, ⟨⟨3, rfl⟩, ⟨⟨4, rfl⟩, ⟨⟨5, rfl⟩, ⟨⟨6, rfl⟩, ⟨⟨7, rfl⟩, ⟨⟨8, rfl⟩, ⟨⟨9, rfl⟩, ⟨⟨10, rfl⟩, ⟨⟨11, rfl⟩, ⟨⟨12, rfl⟩, ⟨⟨13, rfl⟩, ⟨⟨14, rfl⟩, ⟨⟨15, rfl⟩, ⟨⟨16, rfl⟩, ⟨⟨17, rfl⟩, trivial⟩⟩⟩⟩⟩⟩⟩⟩⟩⟩⟩⟩⟩⟩⟩⟩⟩⟩).pickL [(g183, [.bool ((rb ((R : Nat) : Int))), .slice zo189 ((words ((R : Nat) : Int).natAbs).length) zc190, .bool false, .slice none 0 0, .slice uo191 ((words D).length) uc192]), (g163, [.bool ((rb T)), .slice zo185 ((words T.natAbs).length) zc186, .bool false, .slice none 0 0, .slice uo187 ((words 1).length) uc188]), (g12, [.bool (rb u.num), .slice a1 ((words u.num.natAbs).length) ac1, .slice a2 ((words u.den).length) ac2, .bool (rb v.num), .slice a3 ((words v.num.natAbs).length) ac3, .slice a4 ((words v.den).length) ac4, .bool (rb x.num), .slice u1 ((words x.num.natAbs).length) uc1, .slice u2 ((words x.den).length) uc2, .bool (rb y.num), .slice u3 ((words y.num.natAbs).length) uc3, .slice u4 ((words y.den).length) uc4]), (g8, [.bool false, .slice none 0 0, .slice none 0 0, .bool false, .slice none 0 0, .slice none 0 0]), (g6, [.bool false, .slice none 0 0, .slice none 0 0, .bool false, .slice none 0 0, .slice none 0 0]), (g4, [.bool (rb x.num), .slice u1 ((words x.num.natAbs).length) uc1, .slice u2 ((words x.den).length) uc2, .bool (rb y.num), .slice u3 ((words y.num.natAbs).length) uc3, .slice u4 ((words y.den).length) uc4]), (g2, [.bool (rb u.num), .slice a1 ((words u.num.natAbs).length) ac1, .slice a2 ((words u.den).length) ac2, .bool (rb v.num), .slice a3 ((words v.num.natAbs).length) ac3, .slice a4 ((words v.den).length) ac4])] [0, 1, 2, 3, 4, 5, 6] rfl (by decide)), hs196.nil, hs196.cap, hs195.nil, hs195.cap, hs194.nil, hs194.cap, hs193.nil, hs193.cap, hs134.nil, hs134.cap, hs133.nil, hs133.cap, hs132.nil, hs132.cap, hs128.nil, hs128.cap, hs127.nil, hs127.cap, hs126.nil, hs126.cap⟩
      · refine op_new (vs := [.bool false, .slice none 0 0, .bool false, .slice none 0 0, .slice none 0 0]) (t := 48) hA hS 9 rfl rfl rfl rfl (fun g => .pointer (some ⟨g, 0, none⟩)) (does_alloc (z := .agg #[.bool false, .slice none 0 0, .bool false, .slice none 0 0, .slice none 0 0]) (by kernel_rfl) rfl) rfl ?_
        intro g201 w202 hS
        refine ⟨(hS.partD (.cons _ (.cons_cons _ (.cons_cons _ (.cons_cons _ (.cons_cons _ (.cons_cons _ .slnil)))))) 6 rfl (.refl _)), ?_⟩
        intro a hA
        refine any_many (rs := [4, 8]) (by kernel_rfl) (by simp) ⟨?_, ?_, trivial⟩
        · refine op_call hA 4 rfl rfl rfl rfl (enters_func  rfl rfl (fun w => by kernel_rfl)) (zdivmod_as ⟨(hS.rd 5 rfl), hs126.nil, hs126.cap⟩ ⟨(hS.rd 4 rfl), hs127.nil, hs127.cap⟩ ⟨(hS.rd 3 rfl), hs128.nil, hs128.cap⟩ ⟨(hS.rd 2 rfl), hs132.nil, hs132.cap⟩ ⟨(hS.rd 1 rfl), hs133.nil, hs133.cap⟩ ⟨(hS.rd 0 rfl), hs134.nil, hs134.cap⟩ (Nat.le_trans (spX_len hu hv) (by decide)) (Nat.le_trans (spY_len hu hv) (by decide)) (Nat.le_trans (spD_len hu hv) (by decide)) (Nat.le_trans (spX_len hx hy) (by decide)) (Nat.le_trans (spY_len hx hy) (by decide)) (Nat.le_trans (spD_len hx hy) (by decide)) (spD_ne u v) hx2 hT hR hD) ?_
          rintro _ w216 ⟨zo203, zc204, uo205, uc206, zo207, zc208, uo209, uc210, rfl, hs211, hs212, hs213, hs214, hb215⟩
          replace hS := hS.call hb215
          replace hS := hS.addR hs211.rd
          replace hS := hS.addR hs212.rd
          replace hS := hS.addR hs213.rd
          replace hS := hS.addR hs214.rd
          refine ⟨_, rfl, (hS.partD (.cons _ (.cons_cons _ (.cons_cons _ (.cons_cons _ (.cons_cons _ (.cons_cons _ .slnil)))))) 10 rfl (.refl _)), ?_⟩
          intro a hA
          refine any_take hA 5 rfl rfl rfl rfl (by kernel_rfl) (by kernel_rfl) (by kernel_rfl) (fun c a w h => hP c a _ _ w h) (hS.partD (.cons _ (.cons_cons _ (.cons_cons _ (.cons_cons _ (.cons_cons _ (.cons_cons _ .slnil)))))) 10 rfl (.refl _)) (fun w1 hS => does_move rfl) ?_
          intro a hA
          refine any_take (v := .agg #[.bool ((rb T)), .slice zo203 ((words T.natAbs).length) zc204, .bool false, .slice none 0 0, .slice uo205 ((words 1).length) uc206]) hA 6 rfl rfl rfl rfl (by kernel_rfl) (by kernel_rfl) (by kernel_rfl) (fun c a w h => hP c a _ _ w h) (hS.partD (.cons _ (.cons_cons _ (.cons_cons _ (.cons_cons _ (.cons_cons _ (.cons_cons _ .slnil)))))) 10 rfl (.refl _)) (fun w1 hS => does_extract (vs := [.agg #[.bool ((rb T)), .slice zo203 ((words T.natAbs).length) zc204, .bool false, .slice none 0 0, .slice uo205 ((words 1).length) uc206], .agg #[.bool ((rb ((R : Nat) : Int))), .slice zo207 ((words ((R : Nat) : Int).natAbs).length) zc208, .bool false, .slice none 0 0, .slice uo209 ((words D).length) uc210]]) rfl rfl) ?_
          intro a hA
          refine any_take (v := .agg #[.bool ((rb ((R : Nat) : Int))), .slice zo207 ((words ((R : Nat) : Int).natAbs).length) zc208, .bool false, .slice none 0 0, .slice uo209 ((words D).length) uc210]) hA 7 rfl rfl rfl rfl (by kernel_rfl) (by kernel_rfl) (by kernel_rfl) (fun c a w h => hP c a _ _ w h) (hS.partD (.cons _ (.cons_cons _ (.cons_cons _ (.cons_cons _ (.cons_cons _ (.cons_cons _ .slnil)))))) 10 rfl (.refl _)) (fun w1 hS => does_extract (vs := [.agg #[.bool ((rb T)), .slice zo203 ((words T.natAbs).length) zc204, .bool false, .slice none 0 0, .slice uo205 ((words 1).length) uc206], .agg #[.bool ((rb ((R : Nat) : Int))), .slice zo207 ((words ((R : Nat) : Int).natAbs).length) zc208, .bool false, .slice none 0 0, .slice uo209 ((words D).length) uc210]]) rfl rfl) ?_
          intro a hA
          refine any_one (by kernel_rfl) (op_new (vs := [.bool false, .slice none 0 0, .bool false, .slice none 0 0, .slice none 0 0]) (t := 48) hA hS 8 rfl rfl rfl rfl (fun g => .pointer (some ⟨g, 0, none⟩)) (does_alloc (z := .agg #[.bool false, .slice none 0 0, .bool false, .slice none 0 0, .slice none 0 0]) (by kernel_rfl) rfl) rfl ?_)
          intro g217 w218 hS
          refine ⟨(hS.partD (.cons _ (.cons _ (.cons_cons _ (.cons_cons _ (.cons_cons _ (.cons_cons _ (.cons_cons _ .slnil))))))) 10 rfl (.refl _)), ?_⟩
          intro a hA
          refine any_one (by kernel_rfl) (op_store (us := [.bool ((rb T)), .slice zo203 ((words T.natAbs).length) zc204, .bool false, .slice none 0 0, .slice uo205 ((words 1).length) uc206]) hA hS 10 rfl rfl rfl (sets_store (cs := [.bool ((rb T)), .slice zo203 ((words T.natAbs).length) zc204, .bool false, .slice none 0 0, .slice uo205 ((words 1).length) uc206]) rfl rfl rfl (by kernel_rfl) hS 0 rfl rfl rfl) 0 rfl rfl rfl rfl ?_)
          intro w219 hS
          refine ⟨(hS.partD (.cons _ (.cons _ (.cons_cons _ (.cons_cons _ (.cons_cons _ (.cons_cons _ (.cons_cons _ .slnil))))))) 10 rfl (.refl _)), ?_⟩
          refine any_one (by kernel_rfl) (op_store (us := [.bool ((rb ((R : Nat) : Int))), .slice zo207 ((words ((R : Nat) : Int).natAbs).length) zc208, .bool false, .slice none 0 0, .slice uo209 ((words D).length) uc210]) hA hS 11 rfl rfl rfl (sets_store (cs := [.bool ((rb ((R : Nat) : Int))), .slice zo207 ((words ((R : Nat) : Int).natAbs).length) zc208, .bool false, .slice none 0 0, .slice uo209 ((words D).length) uc210]) rfl rfl rfl (by kernel_rfl) hS 1 rfl rfl rfl) 1 rfl rfl rfl rfl ?_)
          intro w220 hS
          refine ⟨(hS.partD (.cons _ (.cons _ (.cons_cons _ (.cons_cons _ (.cons_cons _ (.cons_cons _ (.cons_cons _ .slnil))))))) 10 rfl (.refl _)), ?_⟩
          refine any_end (by kernel_rfl) ?_
          refine hJ96 _ _ ⟨g217, g201, zo203, zc204, uo205, uc206, zo207, zc208, uo209, uc210, p125_1, p125_c1, p125_2, p125_c2, p125_3, p125_c3, p131_1, p131_c1, p131_2, p131_c2, p131_3, p131_c3, hA.keep _ ⟨rfl, rfl, rfl, rfl, rfl, rfl, rfl, rfl, rfl, rfl, rfl, rfl, rfl, rfl, rfl, rfl, rfl, rfl, rfl, rfl, rfl, rfl, rfl, rfl, rfl, rfl, trivial⟩, ((hS.pickR [(uo209, words D), (zo207, words ((R : Nat) : Int).natAbs), (uo205, words 1), (zo203, words T.natAbs), (p131_3, words (spD x y)), (p131_2, words (spY x y).natAbs), (p131_1, words (spX x y).natAbs), (p125_3, words (spD u v)), (p125_2, words (spY u v).natAbs), (p125_1, words (spX u v).natAbs), (u4, words y.den), (u3, words y.num.natAbs), (u2, words x.den), (u1, words x.num.natAbs), (a4, words v.den), (a3, words v.num.natAbs), (a2, words u.den), (a1, words u.num.natAbs)] ⟨⟨0, rfl⟩, ⟨⟨1, rfl⟩, ⟨⟨2, rfl⟩, ⟨⟨3, rfl⟩, ⟨⟨4, rfl⟩, ⟨⟨5, rfl⟩, ⟨⟨6, rfl⟩, ⟨⟨7, rfl⟩, ⟨⟨8, rfl⟩, ⟨⟨9, rfl⟩, ⟨⟨10, rfl⟩, ⟨⟨11, rfl⟩, ⟨⟨12, rfl⟩, ⟨⟨13, rfl⟩, ⟨⟨14, rfl⟩, ⟨⟨15, rfl⟩, ⟨⟨16, rfl⟩, ⟨⟨17, rfl⟩, trivial⟩⟩⟩⟩⟩⟩⟩⟩⟩⟩⟩⟩⟩⟩⟩⟩⟩⟩).pickL [(g201, [.bool ((rb ((R : Nat) : Int))), .slice zo207 ((words ((R : Nat) : Int).natAbs).length) zc208, .bool false, .slice none 0 0, .slice uo209 ((words D).length) uc210]), (g217, [.bool ((rb T)), .slice zo203 ((words T.natAbs).length) zc204, .bool false, .slice none 0 0, .slice uo205 ((words 1).length) uc206]), (g12, [.bool (rb u.num), .slice a1 ((words u.num.natAbs).length) ac1, .slice a2 ((words u.den).length) ac2, .bool (rb v.num), .slice a3 ((words v.num.natAbs).length) ac3, .slice a4 ((words v.den).length) ac4, .bool (rb x.num), .slice u1 ((words x.num.natAbs).length) uc1, .slice u2 ((words x.den).length) uc2, .bool (rb y.num), .slice u3 ((words y.num.natAbs).length) uc3, .slice u4 ((words y.den).length) uc4]), (g8, [.bool false, .slice none 0 0, .slice none 0 0, .bool false, .slice none 0 0, .slice none 0 0]), (g6, [.bool false, .slice none 0 0, .slice none 0 0, .bool false, .slice none 0 0, .slice none 0 0]), (g4, [.bool (rb x.num), .slice u1 ((words x.num.natAbs).length) uc1, .slice u2 ((words x.den).length) uc2, .bool (rb y.num), .slice u3 ((words y.num.natAbs).length) uc3, .slice u4 ((words y.den).length) uc4]), (g2, [.bool (rb u.num), .slice a1 ((words u.num.natAbs).length) ac1, .slice a2 ((words u.den).length) ac2, .bool (rb v.num), .slice a3 ((words v.num.natAbs).length) ac3, .slice a4 ((words v.den).length) ac4])] [1, 0, 2, 3, 4, 5, 6] rfl (by decide)), hs214.nil, hs214.cap, hs213.nil, hs213.cap, hs212.nil, hs212.cap, hs211.nil, hs211.cap, hs134.nil, hs134.cap, hs133.nil, hs133.cap, hs132.nil, hs132.cap, hs128.nil, hs128.cap, hs127.nil, hs127.cap, hs126.nil, hs126.cap⟩
        · refine op_new (vs := [.bool false, .slice none 0 0, .bool false, .slice none 0 0, .slice none 0 0]) (t := 48) hA hS 8 rfl rfl rfl rfl (fun g => .pointer (some ⟨g, 0, none⟩)) (does_alloc (z := .agg #[.bool false, .slice none 0 0, .bool false, .slice none 0 0, .slice none 0 0]) (by kernel_rfl) rfl) rfl ?_
          intro g221 w222 hS
          refine ⟨(hS.partD (.cons _ (.cons _ (.cons_cons _ (.cons_cons _ (.cons_cons _ (.cons_cons _ (.cons_cons _ .slnil))))))) 6 rfl (.refl _)), ?_⟩
          intro a hA
          refine any_one (by kernel_rfl) (op_call hA 4 rfl rfl rfl rfl (enters_func  rfl rfl (fun w => by kernel_rfl)) (zdivmod_as ⟨(hS.rd 5 rfl), hs126.nil, hs126.cap⟩ ⟨(hS.rd 4 rfl), hs127.nil, hs127.cap⟩ ⟨(hS.rd 3 rfl), hs128.nil, hs128.cap⟩ ⟨(hS.rd 2 rfl), hs132.nil, hs132.cap⟩ ⟨(hS.rd 1 rfl), hs133.nil, hs133.cap⟩ ⟨(hS.rd 0 rfl), hs134.nil, hs134.cap⟩ (Nat.le_trans (spX_len hu hv) (by decide)) (Nat.le_trans (spY_len hu hv) (by decide)) (Nat.le_trans (spD_len hu hv) (by decide)) (Nat.le_trans (spX_len hx hy) (by decide)) (Nat.le_trans (spY_len hx hy) (by decide)) (Nat.le_trans (spD_len hx hy) (by decide)) (spD_ne u v) hx2 hT hR hD) ?_)
          rintro _ w236 ⟨zo223, zc224, uo225, uc226, zo227, zc228, uo229, uc230, rfl, hs231, hs232, hs233, hs234, hb235⟩
          replace hS := hS.call hb235
          replace hS := hS.addR hs231.rd
          replace hS := hS.addR hs232.rd
          replace hS := hS.addR hs233.rd
          replace hS := hS.addR hs234.rd
          refine ⟨_, rfl, (hS.partD (.cons _ (.cons _ (.cons_cons _ (.cons_cons _ (.cons_cons _ (.cons_cons _ (.cons_cons _ .slnil))))))) 10 rfl (.refl _)), ?_⟩
          intro a hA
          refine any_take hA 5 rfl rfl rfl rfl (by kernel_rfl) (by kernel_rfl) (by kernel_rfl) (fun c a w h => hP c a _ _ w h) (hS.partD (.cons _ (.cons _ (.cons_cons _ (.cons_cons _ (.cons_cons _ (.cons_cons _ (.cons_cons _ .slnil))))))) 10 rfl (.refl _)) (fun w1 hS => does_move rfl) ?_
          intro a hA
          refine any_take (v := .agg #[.bool ((rb T)), .slice zo223 ((words T.natAbs).length) zc224, .bool false, .slice none 0 0, .slice uo225 ((words 1).length) uc226]) hA 6 rfl rfl rfl rfl (by kernel_rfl) (by kernel_rfl) (by kernel_rfl) (fun c a w h => hP c a _ _ w h) (hS.partD (.cons _ (.cons _ (.cons_cons _ (.cons_cons _ (.cons_cons _ (.cons_cons _ (.cons_cons _ .slnil))))))) 10 rfl (.refl _)) (fun w1 hS => does_extract (vs := [.agg #[.bool ((rb T)), .slice zo223 ((words T.natAbs).length) zc224, .bool false, .slice none 0 0, .slice uo225 ((words 1).length) uc226], .agg #[.bool ((rb ((R : Nat) : Int))), .slice zo227 ((words ((R : Nat) : Int).natAbs).length) zc228, .bool false, .slice none 0 0, .slice uo229 ((words D).length) uc230]]) rfl rfl) ?_
          intro a hA
          refine any_take (v := .agg #[.bool ((rb ((R : Nat) : Int))), .slice zo227 ((words ((R : Nat) : Int).natAbs).length) zc228, .bool false, .slice none 0 0, .slice uo229 ((words D).length) uc230]) hA 7 rfl rfl rfl rfl (by kernel_rfl) (by kernel_rfl) (by kernel_rfl) (fun c a w h => hP c a _ _ w h) (hS.partD (.cons _ (.cons _ (.cons_cons _ (.cons_cons _ (.cons_cons _ (.cons_cons _ (.cons_cons _ .slnil))))))) 10 rfl (.refl _)) (fun w1 hS => does_extract (vs := [.agg #[.bool ((rb T)), .slice zo223 ((words T.natAbs).length) zc224, .bool false, .slice none 0 0, .slice uo225 ((words 1).length) uc226], .agg #[.bool ((rb ((R : Nat) : Int))), .slice zo227 ((words ((R : Nat) : Int).natAbs).length) zc228, .bool false, .slice none 0 0, .slice uo229 ((words D).length) uc230]]) rfl rfl) ?_
          intro a hA
          refine any_one (by kernel_rfl) (op_store (us := [.bool ((rb T)), .slice zo223 ((words T.natAbs).length) zc224, .bool false, .slice none 0 0, .slice uo225 ((words 1).length) uc226]) hA hS 10 rfl rfl rfl (sets_store (cs := [.bool ((rb T)), .slice zo223 ((words T.natAbs).length) zc224, .bool false, .slice none 0 0, .slice uo225 ((words 1).length) uc226]) rfl rfl rfl (by kernel_rfl) hS 0 rfl rfl rfl) 0 rfl rfl rfl rfl ?_)
          intro w237 hS
          refine ⟨(hS.partD (.cons _ (.cons _ (.cons_cons _ (.cons_cons _ (.cons_cons _ (.cons_cons _ (.cons_cons _ .slnil))))))) 10 rfl (.refl _)), ?_⟩
          refine any_one (by kernel_rfl) (op_store (us := [.bool ((rb ((R : Nat) : Int))), .slice zo227 ((words ((R : Nat) : Int).natAbs).length) zc228, .bool false, .slice none 0 0, .slice uo229 ((words D).length) uc230]) hA hS 11 rfl rfl rfl (sets_store (cs := [.bool ((rb ((R : Nat) : Int))), .slice zo227 ((words ((R : Nat) : Int).natAbs).length) zc228, .bool false, .slice none 0 0, .slice uo229 ((words D).length) uc230]) rfl rfl rfl (by kernel_rfl) hS 1 rfl rfl rfl) 1 rfl rfl rfl rfl ?_)
          intro w238 hS
          refine ⟨(hS.partD (.cons _ (.cons _ (.cons_cons _ (.cons_cons _ (.cons_cons _ (.cons_cons _ (.cons_cons _ .slnil))))))) 10 rfl (.refl _)), ?_⟩
          refine any_end (by kernel_rfl) ?_
          refine hJ96 _ _ ⟨g221, g201, zo223, zc224, uo225, uc226, zo227, zc228, uo229, uc230, p125_1, p125_c1, p125_2, p125_c2, p125_3, p125_c3, p131_1, p131_c1, p131_2, p131_c2, p131_3, p131_c3, hA.keep _ ⟨rfl, rfl, rfl, rfl, rfl, rfl, rfl, rfl, rfl, rfl, rfl, rfl, rfl, rfl, rfl, rfl, rfl, rfl, rfl, rfl, rfl, rfl, rfl, rfl, rfl, rfl, trivial⟩, ((hS.pickR [(uo229, words D), (zo227, words ((R : Nat) : Int).natAbs), (uo225, words 1), (zo223, words T.natAbs), (p131_3, words (spD x y)), (p131_2, words (spY x y).natAbs), (p131_1, words (spX x y).natAbs), (p125_3, words (spD u v)), (p125_2, words (spY u v).natAbs), (p125_1, words (spX u v).natAbs), (u4, words y.den), (u3, words y.num.natAbs), (u2, words x.den), (u1, words x.num.natAbs), (a4, words v.den), (a3, words v.num.natAbs), (a2, words u.den), (a1, words u.num.natAbs)] ⟨⟨0, rfl⟩, ⟨⟨1, rfl⟩, ⟨⟨2, rfl⟩, ⟨⟨3, rfl⟩, ⟨⟨4, rfl⟩, ⟨⟨5, rfl⟩, ⟨⟨6, rfl⟩, ⟨⟨7, rfl⟩, ⟨⟨8, rfl⟩, ⟨⟨9, rfl⟩, ⟨⟨10, rfl⟩, ⟨⟨11, rfl⟩, ⟨⟨12, rfl⟩, ⟨⟨13, rfl⟩, ⟨⟨14, rfl⟩, ⟨⟨15, rfl⟩, ⟨⟨16, rfl⟩, ⟨⟨17, rfl⟩, trivial⟩⟩⟩⟩⟩⟩⟩⟩⟩⟩⟩⟩⟩⟩⟩⟩⟩⟩).pickL [(g201, [.bool ((rb ((R : Nat) : Int))), .slice zo227 ((words ((R : Nat) : Int).natAbs).length) zc228, .bool false, .slice none 0 0, .slice uo229 ((words D).length) uc230]), (g221, [.bool ((rb T)), .slice zo223 ((words T.natAbs).length) zc224, .bool false, .slice none 0 0, .slice uo225 ((words 1).length) uc226]), (g12, [.bool (rb u.num), .slice a1 ((words u.num.natAbs).length) ac1, .slice a2 ((words u.den).length) ac2, .bool (rb v.num), .slice a3 ((words v.num.natAbs).length) ac3, .slice a4 ((words v.den).length) ac4, .bool (rb x.num), .slice u1 ((words x.num.natAbs).length) uc1, .slice u2 ((words x.den).length) uc2, .bool (rb y.num), .slice u3 ((words y.num.natAbs).length) uc3, .slice u4 ((words y.den).length) uc4]), (g8, [.bool false, .slice none 0 0, .slice none 0 0, .bool false, .slice none 0 0, .slice none 0 0]), (g6, [.bool false, .slice none 0 0, .slice none 0 0, .bool false, .slice none 0 0, .slice none 0 0]), (g4, [.bool (rb x.num), .slice u1 ((words x.num.natAbs).length) uc1, .slice u2 ((words x.den).length) uc2, .bool (rb y.num), .slice u3 ((words y.num.natAbs).length) uc3, .slice u4 ((words y.den).length) uc4]), (g2, [.bool (rb u.num), .slice a1 ((words u.num.natAbs).length) ac1, .slice a2 ((words u.den).length) ac2, .bool (rb v.num), .slice a3 ((words v.num.natAbs).length) ac3, .slice a4 ((words v.den).length) ac4])] [1, 0, 2, 3, 4, 5, 6] rfl (by decide)), hs234.nil, hs234.cap, hs233.nil, hs233.cap, hs232.nil, hs232.cap, hs231.nil, hs231.cap, hs134.nil, hs134.cap, hs133.nil, hs133.cap, hs132.nil, hs132.cap, hs128.nil, hs128.cap, hs127.nil, hs127.cap, hs126.nil, hs126.cap⟩
    · refine op_new (vs := [.bool false, .slice none 0 0, .bool false, .slice none 0 0, .slice none 0 0]) (t := 48) hA hS 8 rfl rfl rfl rfl (fun g => .pointer (some ⟨g, 0, none⟩)) (does_alloc (z := .agg #[.bool false, .slice none 0 0, .bool false, .slice none 0 0, .slice none 0 0]) (by kernel_rfl) rfl) rfl ?_
      intro g239 w240 hS
      refine ⟨(hS.partD (.cons _ (.cons_cons _ (.cons_cons _ (.cons_cons _ (.cons_cons _ (.cons_cons _ .slnil)))))) 3 rfl (.refl _)), ?_⟩
      intro a hA
      refine any_many (rs := [3, 9]) (by kernel_rfl) (by simp) ⟨?_, ?_, trivial⟩
      · refine op_call hA 3 rfl rfl rfl rfl (enters_func  rfl rfl (fun w => by kernel_rfl)) (zspread_any (show Nm _ (Q6.rat x y) u1 uc1 u2 uc2 u3 uc3 u4 uc4 from ⟨⟨(hS.rd 6 rfl), hb.s1.nil, hb.s1.cap⟩, ⟨(hS.rd 5 rfl), hb.s2.nil, hb.s2.cap⟩, ⟨(hS.rd 4 rfl), hb.s3.nil, hb.s3.cap⟩, ⟨(hS.rd 3 rfl), hb.s4.nil, hb.s4.cap⟩⟩) hx hy) ?_
        rintro _ w246 ⟨p241_1, p241_c1, p241_2, p241_c2, p241_3, p241_c3, rfl, hs242, hs243, hs244, hb245⟩
        replace hS := hS.call hb245
        replace hS := hS.addR hs242.rd
        replace hS := hS.addR hs243.rd
        replace hS := hS.addR hs244.rd
        refine ⟨_, rfl, (hS.partD (.cons _ (.cons_cons _ (.cons_cons _ (.cons_cons _ (.cons_cons _ (.cons_cons _ .slnil)))))) 6 rfl (.refl _)), ?_⟩
        intro a hA
        refine any_many (rs := [4, 9]) (by kernel_rfl) (by simp) ⟨?_, ?_, trivial⟩
        · refine op_call hA 4 rfl rfl rfl rfl (enters_func  rfl rfl (fun w => by kernel_rfl)) (zdivmod_as ⟨(hS.rd 5 rfl), hs126.nil, hs126.cap⟩ ⟨(hS.rd 4 rfl), hs127.nil, hs127.cap⟩ ⟨(hS.rd 3 rfl), hs128.nil, hs128.cap⟩ ⟨(hS.rd 2 rfl), hs242.nil, hs242.cap⟩ ⟨(hS.rd 1 rfl), hs243.nil, hs243.cap⟩ ⟨(hS.rd 0 rfl), hs244.nil, hs244.cap⟩ (Nat.le_trans (spX_len hu hv) (by decide)) (Nat.le_trans (spY_len hu hv) (by decide)) (Nat.le_trans (spD_len hu hv) (by decide)) (Nat.le_trans (spX_len hx hy) (by decide)) (Nat.le_trans (spY_len hx hy) (by decide)) (Nat.le_trans (spD_len hx hy) (by decide)) (spD_ne u v) hx2 hT hR hD) ?_
          rintro _ w260 ⟨zo247, zc248, uo249, uc250, zo251, zc252, uo253, uc254, rfl, hs255, hs256, hs257, hs258, hb259⟩
          replace hS := hS.call hb259
          replace hS := hS.addR hs255.rd
          replace hS := hS.addR hs256.rd
          replace hS := hS.addR hs257.rd
          replace hS := hS.addR hs258.rd
          refine ⟨_, rfl, (hS.partD (.cons _ (.cons_cons _ (.cons_cons _ (.cons_cons _ (.cons_cons _ (.cons_cons _ .slnil)))))) 10 rfl (.refl _)), ?_⟩
          intro a hA
          refine any_take hA 5 rfl rfl rfl rfl (by kernel_rfl) (by kernel_rfl) (by kernel_rfl) (fun c a w h => hP c a _ _ w h) (hS.partD (.cons _ (.cons_cons _ (.cons_cons _ (.cons_cons _ (.cons_cons _ (.cons_cons _ .slnil)))))) 10 rfl (.refl _)) (fun w1 hS => does_move rfl) ?_
          intro a hA
          refine any_take (v := .agg #[.bool ((rb T)), .slice zo247 ((words T.natAbs).length) zc248, .bool false, .slice none 0 0, .slice uo249 ((words 1).length) uc250]) hA 6 rfl rfl rfl rfl (by kernel_rfl) (by kernel_rfl) (by kernel_rfl) (fun c a w h => hP c a _ _ w h) (hS.partD (.cons _ (.cons_cons _ (.cons_cons _ (.cons_cons _ (.cons_cons _ (.cons_cons _ .slnil)))))) 10 rfl (.refl _)) (fun w1 hS => does_extract (vs := [.agg #[.bool ((rb T)), .slice zo247 ((words T.natAbs).length) zc248, .bool false, .slice none 0 0, .slice uo249 ((words 1).length) uc250], .agg #[.bool ((rb ((R : Nat) : Int))), .slice zo251 ((words ((R : Nat) : Int).natAbs).length) zc252, .bool false, .slice none 0 0, .slice uo253 ((words D).length) uc254]]) rfl rfl) ?_
          intro a hA
          refine any_take (v := .agg #[.bool ((rb ((R : Nat) : Int))), .slice zo251 ((words ((R : Nat) : Int).natAbs).length) zc252, .bool false, .slice none 0 0, .slice uo253 ((words D).length) uc254]) hA 7 rfl rfl rfl rfl (by kernel_rfl) (by kernel_rfl) (by kernel_rfl) (fun c a w h => hP c a _ _ w h) (hS.partD (.cons _ (.cons_cons _ (.cons_cons _ (.cons_cons _ (.cons_cons _ (.cons_cons _ .slnil)))))) 10 rfl (.refl _)) (fun w1 hS => does_extract (vs := [.agg #[.bool ((rb T)), .slice zo247 ((words T.natAbs).length) zc248, .bool false, .slice none 0 0, .slice uo249 ((words 1).length) uc250], .agg #[.bool ((rb ((R : Nat) : Int))), .slice zo251 ((words ((R : Nat) : Int).natAbs).length) zc252, .bool false, .slice none 0 0, .slice uo253 ((words D).length) uc254]]) rfl rfl) ?_
          intro a hA
          refine any_one (by kernel_rfl) (op_new (vs := [.bool false, .slice none 0 0, .bool false, .slice none 0 0, .slice none 0 0]) (t := 48) hA hS 9 rfl rfl rfl rfl (fun g => .pointer (some ⟨g, 0, none⟩)) (does_alloc (z := .agg #[.bool false, .slice none 0 0, .bool false, .slice none 0 0, .slice none 0 0]) (by kernel_rfl) rfl) rfl ?_)
          intro g261 w262 hS
          refine ⟨(hS.partD (.cons _ (.cons _ (.cons_cons _ (.cons_cons _ (.cons_cons _ (.cons_cons _ (.cons_cons _ .slnil))))))) 10 rfl (.refl _)), ?_⟩
          intro a hA
          refine any_one (by kernel_rfl) (op_store (us := [.bool ((rb T)), .slice zo247 ((words T.natAbs).length) zc248, .bool false, .slice none 0 0, .slice uo249 ((words 1).length) uc250]) hA hS 10 rfl rfl rfl (sets_store (cs := [.bool ((rb T)), .slice zo247 ((words T.natAbs).length) zc248, .bool false, .slice none 0 0, .slice uo249 ((words 1).length) uc250]) rfl rfl rfl (by kernel_rfl) hS 1 rfl rfl rfl) 1 rfl rfl rfl rfl ?_)
          intro w263 hS
          refine ⟨(hS.partD (.cons _ (.cons _ (.cons_cons _ (.cons_cons _ (.cons_cons _ (.cons_cons _ (.cons_cons _ .slnil))))))) 10 rfl (.refl _)), ?_⟩
          refine any_one (by kernel_rfl) (op_store (us := [.bool ((rb ((R : Nat) : Int))), .slice zo251 ((words ((R : Nat) : Int).natAbs).length) zc252, .bool false, .slice none 0 0, .slice uo253 ((words D).length) uc254]) hA hS 11 rfl rfl rfl (sets_store (cs := [.bool ((rb ((R : Nat) : Int))), .slice zo251 ((words ((R : Nat) : Int).natAbs).length) zc252, .bool false, .slice none 0 0, .slice uo253 ((words D).length) uc254]) rfl rfl rfl (by kernel_rfl) hS 0 rfl rfl rfl) 0 rfl rfl rfl rfl ?_)
          intro w264 hS
          refine ⟨(hS.partD (.cons _ (.cons _ (.cons_cons _ (.cons_cons _ (.cons_cons _ (.cons_cons _ (.cons_cons _ .slnil))))))) 10 rfl (.refl _)), ?_⟩
          refine any_end (by kernel_rfl) ?_
          refine hJ96 _ _ ⟨g239, g261, zo247, zc248, uo249, uc250, zo251, zc252, uo253, uc254, p125_1, p125_c1, p125_2, p125_c2, p125_3, p125_c3, p241_1, p241_c1, p241_2, p241_c2, p241_3, p241_c3, hA.keep _ ⟨rfl, rfl, rfl, rfl, rfl, rfl, rfl, rfl, rfl, rfl, rfl, rfl, rfl, rfl, rfl, rfl, rfl, rfl, rfl, rfl, rfl, rfl, rfl, rfl, rfl, rfl, trivial⟩, ((hS.pickR [(uo253, words D), (zo251, words ((R : Nat) : Int).natAbs), (uo249, words 1), (zo247, words T.natAbs), (p241_3, words (spD x y)), (p241_2, words (spY x y).natAbs), (p241_1, words (spX x y).natAbs), (p125_3, words (spD u v)), (p125_2, words (spY u v).natAbs), (p125_1, words (spX u v).natAbs), (u4, words y.den), (u3, words y.num.natAbs), (u2, words x.den), (u1, words x.num.natAbs), (a4, words v.den), (a3, words v.num.natAbs), (a2, words u.den), (a1, words u.num.natAbs)] ⟨⟨0, rfl⟩, ⟨⟨1, rfl⟩, ⟨⟨2, rfl⟩, ⟨⟨3, rfl⟩, ⟨⟨4, rfl⟩, ⟨⟨5, rfl⟩, ⟨⟨6, rfl⟩, ⟨⟨7, rfl⟩, ⟨⟨8, rfl⟩, ⟨⟨9, rfl⟩, ⟨⟨10, rfl⟩, ⟨⟨11, rfl⟩, ⟨⟨12, rfl⟩, ⟨⟨13, rfl⟩, ⟨⟨14, rfl⟩, ⟨⟨15, rfl⟩, ⟨⟨16, rfl⟩, ⟨⟨17, rfl⟩, trivial⟩⟩⟩⟩⟩⟩⟩⟩⟩⟩⟩⟩⟩⟩⟩⟩⟩⟩).pickL [(g261, [.bool ((rb ((R : Nat) : Int))), .slice zo251 ((words ((R : Nat) : Int).natAbs).length) zc252, .bool false, .slice none 0 0, .slice uo253 ((words D).length) uc254]), (g239, [.bool ((rb T)), .slice zo247 ((words T.natAbs).length) zc248, .bool false, .slice none 0 0, .slice uo249 ((words 1).length) uc250]), (g12, [.bool (rb u.num), .slice a1 ((words u.num.natAbs).length) ac1, .slice a2 ((words u.den).length) ac2, .bool (rb v.num), .slice a3 ((words v.num.natAbs).length) ac3, .slice a4 ((words v.den).length) ac4, .bool (rb x.num), .slice u1 ((words x.num.natAbs).length) uc1, .slice u2 ((words x.den).length) uc2, .bool (rb y.num), .slice u3 ((words y.num.natAbs).length) uc3, .slice u4 ((words y.den).length) uc4]), (g8, [.bool false, .slice none 0 0, .slice none 0 0, .bool false, .slice none 0 0, .slice none 0 0]), (g6, [.bool false, .slice none 0 0, .slice none 0 0, .bool false, .slice none 0 0, .slice none 0 0]), (g4, [.bool (rb x.num), .slice u1 ((words x.num.natAbs).length) uc1, .slice u2 ((words x.den).length) uc2, .bool (rb y.num), .slice u3 ((words y.num.natAbs).length) uc3, .slice u4 ((words y.den).length) uc4]), (g2, [.bool (rb u.num), .slice a1 ((words u.num.natAbs).length) ac1, .slice a2 ((words u.den).length) ac2, .bool (rb v.num), .slice a3 ((words v.num.natAbs).length) ac3, .slice a4 ((words v.den).length) ac4])] [0, 1, 2, 3, 4, 5, 6] rfl (by decide)), hs258.nil, hs258.cap, hs257.nil, hs257.cap, hs256.nil, hs256.cap, hs255.nil, hs255.cap, hs244.nil, hs244.cap, hs243.nil, hs243.cap, hs242.nil, hs242.cap, hs128.nil, hs128.cap, hs127.nil, hs127.cap, hs126.nil, hs126.cap⟩
        · refine op_new (vs := [.bool false, .slice none 0 0, .bool false, .slice none 0 0, .slice none 0 0]) (t := 48) hA hS 9 rfl rfl rfl rfl (fun g => .pointer (some ⟨g, 0, none⟩)) (does_alloc (z := .agg #[.bool false, .slice none 0 0, .bool false, .slice none 0 0, .slice none 0 0]) (by kernel_rfl) rfl) rfl ?_
          intro g265 w266 hS
          refine ⟨(hS.partD (.cons _ (.cons _ (.cons_cons _ (.cons_cons _ (.cons_cons _ (.cons_cons _ (.cons_cons _ .slnil))))))) 6 rfl (.refl _)), ?_⟩
          intro a hA
          refine any_one (by kernel_rfl) (op_call hA 4 rfl rfl rfl rfl (enters_func  rfl rfl (fun w => by kernel_rfl)) (zdivmod_as ⟨(hS.rd 5 rfl), hs126.nil, hs126.cap⟩ ⟨(hS.rd 4 rfl), hs127.nil, hs127.cap⟩ ⟨(hS.rd 3 rfl), hs128.nil, hs128.cap⟩ ⟨(hS.rd 2 rfl), hs242.nil, hs242.cap⟩ ⟨(hS.rd 1 rfl), hs243.nil, hs243.cap⟩ ⟨(hS.rd 0 rfl), hs244.nil, hs244.cap⟩ (Nat.le_trans (spX_len hu hv) (by decide)) (Nat.le_trans (spY_len hu hv) (by decide)) (Nat.le_trans (spD_len hu hv) (by decide)) (Nat.le_trans (spX_len hx hy) (by decide)) (Nat.le_trans (spY_len hx hy) (by decide)) (Nat.le_trans (spD_len hx hy) (by decide)) (spD_ne u v) hx2 hT hR hD) ?_)
          rintro _ w280 ⟨zo267, zc268, uo269, uc270, zo271, zc272, uo273, uc274, rfl, hs275, hs276, hs277, hs278, hb279⟩
          replace hS := hS.call hb279
          replace hS := hS.addR hs275.rd
          replace hS := hS.addR hs276.rd
          replace hS := hS.addR hs277.rd
          replace hS := hS.addR hs278.rd
          refine ⟨_, rfl, (hS.partD (.cons _ (.cons _ (.cons_cons _ (.cons_cons _ (.cons_cons _ (.cons_cons _ (.cons_cons _ .slnil))))))) 10 rfl (.refl _)), ?_⟩
          intro a hA
          refine any_take hA 5 rfl rfl rfl rfl (by kernel_rfl) (by kernel_rfl) (by kernel_rfl) (fun c a w h => hP c a _ _ w h) (hS.partD (.cons _ (.cons _ (.cons_cons _ (.cons_cons _ (.cons_cons _ (.cons_cons _ (.cons_cons _ .slnil))))))) 10 rfl (.refl _)) (fun w1 hS => does_move rfl) ?_
          intro a hA
          refine any_take (v := .agg #[.bool ((rb T)), .slice zo267 ((words T.natAbs).length) zc268, .bool false, .slice none 0 0, .slice uo269 ((words 1).length) uc270]) hA 6 rfl rfl rfl rfl (by kernel_rfl) (by kernel_rfl) (by kernel_rfl) (fun c a w h => hP c a _ _ w h) (hS.partD (.cons _ (.cons _ (.cons_cons _ (.cons_cons _ (.cons_cons _ (.cons_cons _ (.cons_cons _ .slnil))))))) 10 rfl (.refl _)) (fun w1 hS => does_extract (vs := [.agg #[.bool ((rb T)), .slice zo267 ((words T.natAbs).length) zc268, .bool false, .slice none 0 0, .slice uo269 ((words 1).length) uc270], .agg #[.bool ((rb ((R : Nat) : Int))), .slice zo271 ((words ((R : Nat) : Int).natAbs).length) zc272, .bool false, .slice none 0 0, .slice uo273 ((words D).length) uc274]]) rfl rfl) ?_
          intro a hA
          refine any_take (v := .agg #[.bool ((rb ((R : Nat) : Int))), .slice zo271 ((words ((R : Nat) : Int).natAbs).length) zc272, .bool false, .slice none 0 0, .slice uo273 ((words D).length) uc274]) hA 7 rfl rfl rfl rfl (by kernel_rfl) (by kernel_rfl) (by kernel_rfl) (fun c a w h => hP c a _ _ w h) (hS.partD (.cons _ (.cons _ (.cons_cons _ (.cons_cons _ (.cons_cons _ (.cons_cons _ (.cons_cons _ .slnil))))))) 10 rfl (.refl _)) (fun w1 hS => does_extract (vs := [.agg #[.bool ((rb T)), .slice zo267 ((words T.natAbs).length) zc268, .bool false, .slice none 0 0, .slice uo269 ((words 1).length) uc270], .agg #[.bool ((rb ((R : Nat) : Int))), .slice zo271 ((words ((R : Nat) : Int).natAbs).length) zc272, .bool false, .slice none 0 0, .slice uo273 ((words D).length) uc274]]) rfl rfl) ?_
          intro a hA
          refine any_one (by kernel_rfl) (op_store (us := [.bool ((rb T)), .slice zo267 ((words T.natAbs).length) zc268, .bool false, .slice none 0 0, .slice uo269 ((words 1).length) uc270]) hA hS 10 rfl rfl rfl (sets_store (cs := [.bool ((rb T)), .slice zo267 ((words T.natAbs).length) zc268, .bool false, .slice none 0 0, .slice uo269 ((words 1).length) uc270]) rfl rfl rfl (by kernel_rfl) hS 1 rfl rfl rfl) 1 rfl rfl rfl rfl ?_)
          intro w281 hS
          refine ⟨(hS.partD (.cons _ (.cons _ (.cons_cons _ (.cons_cons _ (.cons_cons _ (.cons_cons _ (.cons_cons _ .slnil))))))) 10 rfl (.refl _)), ?_⟩
          refine any_one (by kernel_rfl) (op_store (us := [.bool ((rb ((R : Nat) : Int))), .slice zo271 ((words ((R : Nat) : Int).natAbs).length) zc272, .bool false, .slice none 0 0, .slice uo273 ((words D).length) uc274]) hA hS 11 rfl rfl rfl (sets_store (cs := [.bool ((rb ((R : Nat) : Int))), .slice zo271 ((words ((R : Nat) : Int).natAbs).length) zc272, .bool false, .slice none 0 0, .slice uo273 ((words D).length) uc274]) rfl rfl rfl (by kernel_rfl) hS 0 rfl rfl rfl) 0 rfl rfl rfl rfl ?_)
          intro w282 hS
          refine ⟨(hS.partD (.cons _ (.cons _ (.cons_cons _ (.cons_cons _ (.cons_cons _ (.cons_cons _ (.cons_cons _ .slnil))))))) 10 rfl (.refl _)), ?_⟩
          refine any_end (by kernel_rfl) ?_
          refine hJ96 _ _ ⟨g239, g265, zo267, zc268, uo269, uc270, zo271, zc272, uo273, uc274, p125_1, p125_c1, p125_2, p125_c2, p125_3, p125_c3, p241_1, p241_c1, p241_2, p241_c2, p241_3, p241_c3, hA.keep _ ⟨rfl, rfl, rfl, rfl, rfl, rfl, rfl, rfl, rfl, rfl, rfl, rfl, rfl, rfl, rfl, rfl, rfl, rfl, rfl, rfl, rfl, rfl, rfl, rfl, rfl, rfl, trivial⟩, ((hS.pickR [(uo273, words D), (zo271, words ((R : Nat) : Int).natAbs), (uo269, words 1), (zo267, words T.natAbs), (p241_3, words (spD x y)), (p241_2, words (spY x y).natAbs), (p241_1, words (spX x y).natAbs), (p125_3, words (spD u v)), (p125_2, words (spY u v).natAbs), (p125_1, words (spX u v).natAbs), (u4, words y.den), (u3, words y.num.natAbs), (u2, words x.den), (u1, words x.num.natAbs), (a4, words v.den), (a3, words v.num.natAbs), (a2, words u.den), (a1, words u.num.natAbs)] ⟨⟨0, rfl⟩, ⟨⟨1, rfl⟩, ⟨⟨2, rfl⟩, ⟨⟨3, rfl⟩, ⟨⟨4, rfl⟩, ⟨⟨5, rfl⟩, ⟨⟨6, rfl⟩, ⟨⟨7, rfl⟩, ⟨⟨8, rfl⟩, ⟨⟨9, rfl⟩, ⟨⟨10, rfl⟩, ⟨⟨11, rfl⟩, ⟨⟨12, rfl⟩, ⟨⟨13, rfl⟩, ⟨⟨14, rfl⟩, ⟨⟨15, rfl⟩, ⟨⟨16, rfl⟩, ⟨⟨17, rfl⟩, trivial⟩⟩⟩⟩⟩⟩⟩⟩⟩⟩⟩⟩⟩⟩⟩⟩⟩⟩).pickL [(g265, [.bool ((rb ((R : Nat) : Int))), .slice zo271 ((words ((R : Nat) : Int).natAbs).length) zc272, .bool false, .slice none 0 0, .slice uo273 ((words D).length) uc274]), (g239, [.bool ((rb T)), .slice zo267 ((words T.natAbs).length) zc268, .bool false, .slice none 0 0, .slice uo269 ((words 1).length) uc270]), (g12, [.bool (rb u.num), .slice a1 ((words u.num.natAbs).length) ac1, .slice a2 ((words u.den).length) ac2, .bool (rb v.num), .slice a3 ((words v.num.natAbs).length) ac3, .slice a4 ((words v.den).length) ac4, .bool (rb x.num), .slice u1 ((words x.num.natAbs).length) uc1, .slice u2 ((words x.den).length) uc2, .bool (rb y.num), .slice u3 ((words y.num.natAbs).length) uc3, .slice u4 ((words y.den).length) uc4]), (g8, [.bool false, .slice none 0 0, .slice none 0 0, .bool false, .slice none 0 0, .slice none 0 0]), (g6, [.bool false, .slice none 0 0, .slice none 0 0, .bool false, .slice none 0 0, .slice none 0 0]), (g4, [.bool (rb x.num), .slice u1 ((words x.num.natAbs).length) uc1, .slice u2 ((words x.den).length) uc2, .bool (rb y.num), .slice u3 ((words y.num.natAbs).length) uc3, .slice u4 ((words y.den).length) uc4]), (g2, [.bool (rb u.num), .slice a1 ((words u.num.natAbs).length) ac1, .slice a2 ((words u.den).length) ac2, .bool (rb v.num), .slice a3 ((words v.num.natAbs).length) ac3, .slice a4 ((words v.den).length) ac4])] [0, 1, 2, 3, 4, 5, 6] rfl (by decide)), hs278.nil, hs278.cap, hs277.nil, hs277.cap, hs276.nil, hs276.cap, hs275.nil, hs275.cap, hs244.nil, hs244.cap, hs243.nil, hs243.cap, hs242.nil, hs242.cap, hs128.nil, hs128.cap, hs127.nil, hs127.cap, hs126.nil, hs126.cap⟩
      · refine op_new (vs := [.bool false, .slice none 0 0, .bool false, .slice none 0 0, .slice none 0 0]) (t := 48) hA hS 9 rfl rfl rfl rfl (fun g => .pointer (some ⟨g, 0, none⟩)) (does_alloc (z := .agg #[.bool false, .slice none 0 0, .bool false, .slice none 0 0, .slice none 0 0]) (by kernel_rfl) rfl) rfl ?_
        intro g283 w284 hS
        refine ⟨(hS.partD (.cons _ (.cons _ (.cons_cons _ (.cons_cons _ (.cons_cons _ (.cons_cons _ (.cons_cons _ .slnil))))))) 3 rfl (.refl _)), ?_⟩
        intro a hA
        refine any_one (by kernel_rfl) (op_call hA 3 rfl rfl rfl rfl (enters_func  rfl rfl (fun w => by kernel_rfl)) (zspread_any (show Nm _ (Q6.rat x y) u1 uc1 u2 uc2 u3 uc3 u4 uc4 from ⟨⟨(hS.rd 6 rfl), hb.s1.nil, hb.s1.cap⟩, ⟨(hS.rd 5 rfl), hb.s2.nil, hb.s2.cap⟩, ⟨(hS.rd 4 rfl), hb.s3.nil, hb.s3.cap⟩, ⟨(hS.rd 3 rfl), hb.s4.nil, hb.s4.cap⟩⟩) hx hy) ?_)
        rintro _ w290 ⟨p285_1, p285_c1, p285_2, p285_c2, p285_3, p285_c3, rfl, hs286, hs287, hs288, hb289⟩
        replace hS := hS.call hb289
        replace hS := hS.addR hs286.rd
        replace hS := hS.addR hs287.rd
        replace hS := hS.addR hs288.rd
        refine ⟨_, rfl, (hS.partD (.cons _ (.cons _ (.cons_cons _ (.cons_cons _ (.cons_cons _ (.cons_cons _ (.cons_cons _ .slnil))))))) 6 rfl (.refl _)), ?_⟩
        intro a hA
        refine any_one (by kernel_rfl) (op_call hA 4 rfl rfl rfl rfl (enters_func  rfl rfl (fun w => by kernel_rfl)) (zdivmod_as ⟨(hS.rd 5 rfl), hs126.nil, hs126.cap⟩ ⟨(hS.rd 4 rfl), hs127.nil, hs127.cap⟩ ⟨(hS.rd 3 rfl), hs128.nil, hs128.cap⟩ ⟨(hS.rd 2 rfl), hs286.nil, hs286.cap⟩ ⟨(hS.rd 1 rfl), hs287.nil, hs287.cap⟩ ⟨(hS.rd 0 rfl), hs288.nil, hs288.cap⟩ (Nat.le_trans (spX_len hu hv) (by decide)) (Nat.le_trans (spY_len hu hv) (by decide)) (Nat.le_trans (spD_len hu hv) (by decide)) (Nat.le_trans (spX_len hx hy) (by decide)) (Nat.le_trans (spY_len hx hy) (by decide)) (Nat.le_trans (spD_len hx hy) (by decide)) (spD_ne u v) hx2 hT hR hD) ?_)
        rintro _ w304 ⟨zo291, zc292, uo293, uc294, zo295, zc296, uo297, uc298, rfl, hs299, hs300, hs301, hs302, hb303⟩
        replace hS := hS.call hb303
        replace hS := hS.addR hs299.rd
        replace hS := hS.addR hs300.rd
        replace hS := hS.addR hs301.rd
        replace hS := hS.addR hs302.rd
        refine ⟨_, rfl, (hS.partD (.cons _ (.cons _ (.cons_cons _ (.cons_cons _ (.cons_cons _ (.cons_cons _ (.cons_cons _ .slnil))))))) 10 rfl (.refl _)), ?_⟩
        intro a hA
        refine any_take hA 5 rfl rfl rfl rfl (by kernel_rfl) (by kernel_rfl) (by kernel_rfl) (fun c a w h => hP c a _ _ w h) (hS.partD (.cons _ (.cons _ (.cons_cons _ (.cons_cons _ (.cons_cons _ (.cons_cons _ (.cons_cons _ .slnil))))))) 10 rfl (.refl _)) (fun w1 hS => does_move rfl) ?_
        intro a hA
        refine any_take (v := .agg #[.bool ((rb T)), .slice zo291 ((words T.natAbs).length) zc292, .bool false, .slice none 0 0, .slice uo293 ((words 1).length) uc294]) hA 6 rfl rfl rfl rfl (by kernel_rfl) (by kernel_rfl) (by kernel_rfl) (fun c a w h => hP c a _ _ w h) (hS.partD (.cons _ (.cons _ (.cons_cons _ (.cons_cons _ (.cons_cons _ (.cons_cons _ (.cons_cons _ .slnil))))))) 10 rfl (.refl _)) (fun w1 hS => does_extract (vs := [.agg #[.bool ((rb T)), .slice zo291 ((words T.natAbs).length) zc292, .bool false, .slice none 0 0, .slice uo293 ((words 1).length) uc294], .agg #[.bool ((rb ((R : Nat) : Int))), .slice zo295 ((words ((R : Nat) : Int).natAbs).length) zc296, .bool false, .slice none 0 0, .slice uo297 ((words D).length) uc298]]) rfl rfl) ?_
        intro a hA
        refine any_take (v := .agg #[.bool ((rb ((R : Nat) : Int))), .slice zo295 ((words ((R : Nat) : Int).natAbs).length) zc296, .bool false, .slice none 0 0, .slice uo297 ((words D).length) uc298]) hA 7 rfl rfl rfl rfl (by kernel_rfl) (by kernel_rfl) (by kernel_rfl) (fun c a w h => hP c a _ _ w h) (hS.partD (.cons _ (.cons _ (.cons_cons _ (.cons_cons _ (.cons_cons _ (.cons_cons _ (.cons_cons _ .slnil))))))) 10 rfl (.refl _)) (fun w1 hS => does_extract (vs := [.agg #[.bool ((rb T)), .slice zo291 ((words T.natAbs).length) zc292, .bool false, .slice none 0 0, .slice uo293 ((words 1).length) uc294], .agg #[.bool ((rb ((R : Nat) : Int))), .slice zo295 ((words ((R : Nat) : Int).natAbs).length) zc296, .bool false, .slice none 0 0, .slice uo297 ((words D).length) uc298]]) rfl rfl) ?_
        intro a hA
        refine any_one (by kernel_rfl) (op_store (us := [.bool ((rb T)), .slice zo291 ((words T.natAbs).length) zc292, .bool false, .slice none 0 0, .slice uo293 ((words 1).length) uc294]) hA hS 10 rfl rfl rfl (sets_store (cs := [.bool ((rb T)), .slice zo291 ((words T.natAbs).length) zc292, .bool false, .slice none 0 0, .slice uo293 ((words 1).length) uc294]) rfl rfl rfl (by kernel_rfl) hS 1 rfl rfl rfl) 1 rfl rfl rfl rfl ?_)
        intro w305 hS
        refine ⟨(hS.partD (.cons _ (.cons _ (.cons_cons _ (.cons_cons _ (.cons_cons _ (.cons_cons _ (.cons_cons _ .slnil))))))) 10 rfl (.refl _)), ?_⟩
        refine any_one (by kernel_rfl) (op_store (us := [.bool ((rb ((R : Nat) : Int))), .slice zo295 ((words ((R : Nat) : Int).natAbs).length) zc296, .bool false, .slice none 0 0, .slice uo297 ((words D).length) uc298]) hA hS 11 rfl rfl rfl (sets_store (cs := [.bool ((rb ((R : Nat) : Int))), .slice zo295 ((words ((R : Nat) : Int).natAbs).length) zc296, .bool false, .slice none 0 0, .slice uo297 ((words D).length) uc298]) rfl rfl rfl (by kernel_rfl) hS 0 rfl rfl rfl) 0 rfl rfl rfl rfl ?_)
        intro w306 hS
        refine ⟨(hS.partD (.cons _ (.cons _ (.cons_cons _ (.cons_cons _ (.cons_cons _ (.cons_cons _ (.cons_cons _ .slnil))))))) 10 rfl (.refl _)), ?_⟩
        refine any_end (by kernel_rfl) ?_
        refine hJ96 _ _ ⟨g239, g283, zo291, zc292, uo293, uc294, zo295, zc296, uo297, uc298, p125_1, p125_c1, p125_2, p125_c2, p125_3, p125_c3, p285_1, p285_c1, p285_2, p285_c2, p285_3, p285_c3, hA.keep _ ⟨rfl, rfl, rfl, rfl, rfl, rfl, rfl, rfl, rfl, rfl, rfl, rfl, rfl, rfl, rfl, rfl, rfl, rfl, rfl, rfl, rfl, rfl, rfl, rfl, rfl, rfl, trivial⟩, ((hS.pickR [(uo297, words D), (zo295, words ((R : Nat) : Int).natAbs), (uo293, words 1), (zo291, words T.natAbs), (p285_3, words (spD x y)), (p285_2, words (spY x y).natAbs), (p285_1, words (spX x y).natAbs), (p125_3, words (spD u v)), (p125_2, words (spY u v).natAbs), (p125_1, words (spX u v).natAbs), (u4, words y.den), (u3, words y.num.natAbs), (u2, words x.den), (u1, words x.num.natAbs), (a4, words v.den), (a3, words v.num.natAbs), (a2, words u.den), (a1, words u.num.natAbs)] ⟨⟨0, rfl⟩, ⟨⟨1, rfl⟩, ⟨⟨2, rfl⟩, ⟨⟨3, rfl⟩, ⟨⟨4, rfl⟩, ⟨⟨5, rfl⟩, ⟨⟨6, rfl⟩, ⟨⟨7, rfl⟩, ⟨⟨8, rfl⟩, ⟨⟨9, rfl⟩, ⟨⟨10, rfl⟩, ⟨⟨11, rfl⟩, ⟨⟨12, rfl⟩, ⟨⟨13, rfl⟩, ⟨⟨14, rfl⟩, ⟨⟨15, rfl⟩, ⟨⟨16, rfl⟩, ⟨⟨17, rfl⟩, trivial⟩⟩⟩⟩⟩⟩⟩⟩⟩⟩⟩⟩⟩⟩⟩⟩⟩⟩).pickL [(g283, [.bool ((rb ((R : Nat) : Int))), .slice zo295 ((words ((R : Nat) : Int).natAbs).length) zc296, .bool false, .slice none 0 0, .slice uo297 ((words D).length) uc298]), (g239, [.bool ((rb T)), .slice zo291 ((words T.natAbs).length) zc292, .bool false, .slice none 0 0, .slice uo293 ((words 1).length) uc294]), (g12, [.bool (rb u.num), .slice a1 ((words u.num.natAbs).length) ac1, .slice a2 ((words u.den).length) ac2, .bool (rb v.num), .slice a3 ((words v.num.natAbs).length) ac3, .slice a4 ((words v.den).length) ac4, .bool (rb x.num), .slice u1 ((words x.num.natAbs).length) uc1, .slice u2 ((words x.den).length) uc2, .bool (rb y.num), .slice u3 ((words y.num.natAbs).length) uc3, .slice u4 ((words y.den).length) uc4]), (g8, [.bool false, .slice none 0 0, .slice none 0 0, .bool false, .slice none 0 0, .slice none 0 0]), (g6, [.bool false, .slice none 0 0, .slice none 0 0, .bool false, .slice none 0 0, .slice none 0 0]), (g4, [.bool (rb x.num), .slice u1 ((words x.num.natAbs).length) uc1, .slice u2 ((words x.den).length) uc2, .bool (rb y.num), .slice u3 ((words y.num.natAbs).length) uc3, .slice u4 ((words y.den).length) uc4]), (g2, [.bool (rb u.num), .slice a1 ((words u.num.natAbs).length) ac1, .slice a2 ((words u.den).length) ac2, .bool (rb v.num), .slice a3 ((words v.num.natAbs).length) ac3, .slice a4 ((words v.den).length) ac4])] [0, 1, 2, 3, 4, 5, 6] rfl (by decide)), hs302.nil, hs302.cap, hs301.nil, hs301.cap, hs300.nil, hs300.cap, hs299.nil, hs299.cap, hs288.nil, hs288.cap, hs287.nil, hs287.cap, hs286.nil, hs286.cap, hs128.nil, hs128.cap, hs127.nil, hs127.cap, hs126.nil, hs126.cap⟩
    · refine op_new (vs := [.bool false, .slice none 0 0, .bool false, .slice none 0 0, .slice none 0 0]) (t := 48) hA hS 9 rfl rfl rfl rfl (fun g => .pointer (some ⟨g, 0, none⟩)) (does_alloc (z := .agg #[.bool false, .slice none 0 0, .bool false, .slice none 0 0, .slice none 0 0]) (by kernel_rfl) rfl) rfl ?_
      intro g307 w308 hS
      refine ⟨(hS.partD (.cons _ (.cons_cons _ (.cons_cons _ (.cons_cons _ (.cons_cons _ (.cons_cons _ .slnil)))))) 3 rfl (.refl _)), ?_⟩
      intro a hA
      refine any_many (rs := [3, 8]) (by kernel_rfl) (by simp) ⟨?_, ?_, trivial⟩
      · refine op_call hA 3 rfl rfl rfl rfl (enters_func  rfl rfl (fun w => by kernel_rfl)) (zspread_any (show Nm _ (Q6.rat x y) u1 uc1 u2 uc2 u3 uc3 u4 uc4 from ⟨⟨(hS.rd 6 rfl), hb.s1.nil, hb.s1.cap⟩, ⟨(hS.rd 5 rfl), hb.s2.nil, hb.s2.cap⟩, ⟨(hS.rd 4 rfl), hb.s3.nil, hb.s3.cap⟩, ⟨(hS.rd 3 rfl), hb.s4.nil, hb.s4.cap⟩⟩) hx hy) ?_
        rintro _ w314 ⟨p309_1, p309_c1, p309_2, p309_c2, p309_3, p309_c3, rfl, hs310, hs311, hs312, hb313⟩
        replace hS := hS.call hb313
        replace hS := hS.addR hs310.rd
        replace hS := hS.addR hs311.rd
        replace hS := hS.addR hs312.rd
        refine ⟨_, rfl, (hS.partD (.cons _ (.cons_cons _ (.cons_cons _ (.cons_cons _ (.cons_cons _ (.cons_cons _ .slnil)))))) 6 rfl (.refl _)), ?_⟩
        intro a hA
        refine any_many (rs := [4, 8]) (by kernel_rfl) (by simp) ⟨?_, ?_, trivial⟩
        · refine op_call hA 4 rfl rfl rfl rfl (enters_func  rfl rfl (fun w => by kernel_rfl)) (zdivmod_as ⟨(hS.rd 5 rfl), hs126.nil, hs126.cap⟩ ⟨(hS.rd 4 rfl), hs127.nil, hs127.cap⟩ ⟨(hS.rd 3 rfl), hs128.nil, hs128.cap⟩ ⟨(hS.rd 2 rfl), hs310.nil, hs310.cap⟩ ⟨(hS.rd 1 rfl), hs311.nil, hs311.cap⟩ ⟨(hS.rd 0 rfl), hs312.nil, hs312.cap⟩ (Nat.le_trans (spX_len hu hv) (by decide)) (Nat.le_trans (spY_len hu hv) (by decide)) (Nat.le_trans (spD_len hu hv) (by decide)) (Nat.le_trans (spX_len hx hy) (by decide)) (Nat.le_trans (spY_len hx hy) (by decide)) (Nat.le_trans (spD_len hx hy) (by decide)) (spD_ne u v) hx2 hT hR hD) ?_
          rintro _ w328 ⟨zo315, zc316, uo317, uc318, zo319, zc320, uo321, uc322, rfl, hs323, hs324, hs325, hs326, hb327⟩
          replace hS := hS.call hb327
          replace hS := hS.addR hs323.rd
          replace hS := hS.addR hs324.rd
          replace hS := hS.addR hs325.rd
          replace hS := hS.addR hs326.rd
          refine ⟨_, rfl, (hS.partD (.cons _ (.cons_cons _ (.cons_cons _ (.cons_cons _ (.cons_cons _ (.cons_cons _ .slnil)))))) 10 rfl (.refl _)), ?_⟩
          intro a hA
          refine any_take hA 5 rfl rfl rfl rfl (by kernel_rfl) (by kernel_rfl) (by kernel_rfl) (fun c a w h => hP c a _ _ w h) (hS.partD (.cons _ (.cons_cons _ (.cons_cons _ (.cons_cons _ (.cons_cons _ (.cons_cons _ .slnil)))))) 10 rfl (.refl _)) (fun w1 hS => does_move rfl) ?_
          intro a hA
          refine any_take (v := .agg #[.bool ((rb T)), .slice zo315 ((words T.natAbs).length) zc316, .bool false, .slice none 0 0, .slice uo317 ((words 1).length) uc318]) hA 6 rfl rfl rfl rfl (by kernel_rfl) (by kernel_rfl) (by kernel_rfl) (fun c a w h => hP c a _ _ w h) (hS.partD (.cons _ (.cons_cons _ (.cons_cons _ (.cons_cons _ (.cons_cons _ (.cons_cons _ .slnil)))))) 10 rfl (.refl _)) (fun w1 hS => does_extract (vs := [.agg #[.bool ((rb T)), .slice zo315 ((words T.natAbs).length) zc316, .bool false, .slice none 0 0, .slice uo317 ((words 1).length) uc318], .agg #[.bool ((rb ((R : Nat) : Int))), .slice zo319 ((words ((R : Nat) : Int).natAbs).length) zc320, .bool false, .slice none 0 0, .slice uo321 ((words D).length) uc322]]) rfl rfl) ?_
          intro a hA
          refine any_take (v := .agg #[.bool ((rb ((R : Nat) : Int))), .slice zo319 ((words ((R : Nat) : Int).natAbs).length) zc320, .bool false, .slice none 0 0, .slice uo321 ((words D).length) uc322]) hA 7 rfl rfl rfl rfl (by kernel_rfl) (by kernel_rfl) (by kernel_rfl) (fun c a w h => hP c a _ _ w h) (hS.partD (.cons _ (.cons_cons _ (.cons_cons _ (.cons_cons _ (.cons_cons _ (.cons_cons _ .slnil)))))) 10 rfl (.refl _)) (fun w1 hS => does_extract (vs := [.agg #[.bool ((rb T)), .slice zo315 ((words T.natAbs).length) zc316, .bool false, .slice none 0 0, .slice uo317 ((words 1).length) uc318], .agg #[.bool ((rb ((R : Nat) : Int))), .slice zo319 ((words ((R : Nat) : Int).natAbs).length) zc320, .bool false, .slice none 0 0, .slice uo321 ((words D).length) uc322]]) rfl rfl) ?_
          intro a hA
          refine any_one (by kernel_rfl) (op_new (vs := [.bool false, .slice none 0 0, .bool false, .slice none 0 0, .slice none 0 0]) (t := 48) hA hS 8 rfl rfl rfl rfl (fun g => .pointer (some ⟨g, 0, none⟩)) (does_alloc (z := .agg #[.bool false, .slice none 0 0, .bool false, .slice none 0 0, .slice none 0 0]) (by kernel_rfl) rfl) rfl ?_)
          intro g329 w330 hS
          refine ⟨(hS.partD (.cons _ (.cons _ (.cons_cons _ (.cons_cons _ (.cons_cons _ (.cons_cons _ (.cons_cons _ .slnil))))))) 10 rfl (.refl _)), ?_⟩
          intro a hA
          refine any_one (by kernel_rfl) (op_store (us := [.bool ((rb T)), .slice zo315 ((words T.natAbs).length) zc316, .bool false, .slice none 0 0, .slice uo317 ((words 1).length) uc318]) hA hS 10 rfl rfl rfl (sets_store (cs := [.bool ((rb T)), .slice zo315 ((words T.natAbs).length) zc316, .bool false, .slice none 0 0, .slice uo317 ((words 1).length) uc318]) rfl rfl rfl (by kernel_rfl) hS 0 rfl rfl rfl) 0 rfl rfl rfl rfl ?_)
          intro w331 hS
          refine ⟨(hS.partD (.cons _ (.cons _ (.cons_cons _ (.cons_cons _ (.cons_cons _ (.cons_cons _ (.cons_cons _ .slnil))))))) 10 rfl (.refl _)), ?_⟩
          refine any_one (by kernel_rfl) (op_store (us := [.bool ((rb ((R : Nat) : Int))), .slice zo319 ((words ((R : Nat) : Int).natAbs).length) zc320, .bool false, .slice none 0 0, .slice uo321 ((words D).length) uc322]) hA hS 11 rfl rfl rfl (sets_store (cs := [.bool ((rb ((R : Nat) : Int))), .slice zo319 ((words ((R : Nat) : Int).natAbs).length) zc320, .bool false, .slice none 0 0, .slice uo321 ((words D).length) uc322]) rfl rfl rfl (by kernel_rfl) hS 1 rfl rfl rfl) 1 rfl rfl rfl rfl ?_)
          intro w332 hS
          refine ⟨(hS.partD (.cons _ (.cons _ (.cons_cons _ (.cons_cons _ (.cons_cons _ (.cons_cons _ (.cons_cons _ .slnil))))))) 10 rfl (.refl _)), ?_⟩
          refine any_end (by kernel_rfl) ?_
          refine hJ96 _ _ ⟨g329, g307, zo315, zc316, uo317, uc318, zo319, zc320, uo321, uc322, p125_1, p125_c1, p125_2, p125_c2, p125_3, p125_c3, p309_1, p309_c1, p309_2, p309_c2, p309_3, p309_c3, hA.keep _ ⟨rfl, rfl, rfl, rfl, rfl, rfl, rfl, rfl, rfl, rfl, rfl, rfl, rfl, rfl, rfl, rfl, rfl, rfl, rfl, rfl, rfl, rfl, rfl, rfl, rfl, rfl, trivial⟩, ((hS.pickR [(uo321, words D), (zo319, words ((R : Nat) : Int).natAbs), (uo317, words 1), (zo315, words T.natAbs), (p309_3, words (spD x y)), (p309_2, words (spY x y).natAbs), (p309_1, words (spX x y).natAbs), (p125_3, words (spD u v)), (p125_2, words (spY u v).natAbs), (p125_1, words (spX u v).natAbs), (u4, words y.den), (u3, words y.num.natAbs), (u2, words x.den), (u1, words x.num.natAbs), (a4, words v.den), (a3, words v.num.natAbs), (a2, words u.den), (a1, words u.num.natAbs)] ⟨⟨0, rfl⟩, ⟨⟨1, rfl⟩, ⟨⟨2, rfl⟩, ⟨⟨3, rfl⟩, ⟨⟨4, rfl⟩, ⟨⟨5, rfl⟩, ⟨⟨6, rfl⟩, ⟨⟨7, rfl⟩, ⟨⟨8, rfl⟩, ⟨⟨9, rfl⟩, ⟨⟨10, rfl⟩, ⟨⟨11, rfl⟩, ⟨⟨12, rfl⟩, ⟨⟨13, rfl⟩, ⟨⟨14, rfl⟩, ⟨⟨15, rfl⟩, ⟨⟨16, rfl⟩, ⟨⟨17, rfl⟩, trivial⟩⟩⟩⟩⟩⟩⟩⟩⟩⟩⟩⟩⟩⟩⟩⟩⟩⟩).pickL [(g307, [.bool ((rb ((R : Nat) : Int))), .slice zo319 ((words ((R : Nat) : Int).natAbs).length) zc320, .bool false, .slice none 0 0, .slice uo321 ((words D).length) uc322]), (g329, [.bool ((rb T)), .slice zo315 ((words T.natAbs).length) zc316, .bool false, .slice none 0 0, .slice uo317 ((words 1).length) uc318]), (g12, [.bool (rb u.num), .slice a1 ((words u.num.natAbs).length) ac1, .slice a2 ((words u.den).length) ac2, .bool (rb v.num), .slice a3 ((words v.num.natAbs).length) ac3, .slice a4 ((words v.den).length) ac4, .bool (rb x.num), .slice u1 ((words x.num.natAbs).length) uc1, .slice u2 ((words x.den).length) uc2, .bool (rb y.num), .slice u3 ((words y.num.natAbs).length) uc3, .slice u4 ((words y.den).length) uc4]), (g8, [.bool false, .slice none 0 0, .slice none 0 0, .bool false, .slice none 0 0, .slice none 0 0]), (g6, [.bool false, .slice none 0 0, .slice none 0 0, .bool false, .slice none 0 0, .slice none 0 0]), (g4, [.bool (rb x.num), .slice u1 ((words x.num.natAbs).length) uc1, .slice u2 ((words x.den).length) uc2, .bool (rb y.num), .slice u3 ((words y.num.natAbs).length) uc3, .slice u4 ((words y.den).length) uc4]), (g2, [.bool (rb u.num), .slice a1 ((words u.num.natAbs).length) ac1, .slice a2 ((words u.den).length) ac2, .bool (rb v.num), .slice a3 ((words v.num.natAbs).length) ac3, .slice a4 ((words v.den).length) ac4])] [1, 0, 2, 3, 4, 5, 6] rfl (by decide)), hs326.nil, hs326.cap, hs325.nil, hs325.cap, hs324.nil, hs324.cap, hs323.nil, hs323.cap, hs312.nil, hs312.cap, hs311.nil, hs311.cap, hs310.nil, hs310.cap, hs128.nil, hs128.cap, hs127.nil, hs127.cap, hs126.nil, hs126.cap⟩
        · refine op_new (vs := [.bool false, .slice none 0 0, .bool false, .slice none 0 0, .slice none 0 0]) (t := 48) hA hS 8 rfl rfl rfl rfl (fun g => .pointer (some ⟨g, 0, none⟩)) (does_alloc (z := .agg #[.bool false, .slice none 0 0, .bool false, .slice none 0 0, .slice none 0 0]) (by kernel_rfl) rfl) rfl ?_
          intro g333 w334 hS
          refine ⟨(hS.partD (.cons _ (.cons _ (.cons_cons _ (.cons_cons _ (.cons_cons _ (.cons_cons _ (.cons_cons _ .slnil))))))) 6 rfl (.refl _)), ?_⟩
          intro a hA
          refine any_one (by kernel_rfl) (op_call hA 4 rfl rfl rfl rfl (enters_func  rfl rfl (fun w => by kernel_rfl)) (zdivmod_as ⟨(hS.rd 5 rfl), hs126.nil, hs126.cap⟩ ⟨(hS.rd 4 rfl), hs127.nil, hs127.cap⟩ ⟨(hS.rd 3 rfl), hs128.nil, hs128.cap⟩ ⟨(hS.rd 2 rfl), hs310.nil, hs310.cap⟩ ⟨(hS.rd 1 rfl), hs311.nil, hs311.cap⟩ ⟨(hS.rd 0 rfl), hs312.nil, hs312.cap⟩ (Nat.le_trans (spX_len hu hv) (by decide)) (Nat.le_trans (spY_len hu hv) (by decide)) (Nat.le_trans (spD_len hu hv) (by decide)) (Nat.le_trans (spX_len hx hy) (by decide)) (Nat.le_trans (spY_len hx hy) (by decide)) (Nat.le_trans (spD_len hx hy) (by decide)) (spD_ne u v) hx2 hT hR hD) ?_)
          rintro _ w348 ⟨zo335, zc336, uo337, uc338, zo339, zc340, uo341, uc342, rfl, hs343, hs344, hs345, hs346, hb347⟩
          replace hS := hS.call hb347
          replace hS := hS.addR hs343.rd
          replace hS := hS.addR hs344.rd
          replace hS := hS.addR hs345.rd
          replace hS := hS.addR hs346.rd
          refine ⟨_, rfl, (hS.partD (.cons _ (.cons _ (.cons_cons _ (.cons_cons _ (.cons_cons _ (.cons_cons _ (.cons_cons _ .slnil))))))) 10 rfl (.refl _)), ?_⟩
          intro a hA
          refine any_take hA 5 rfl rfl rfl rfl (by kernel_rfl) (by kernel_rfl) (by kernel_rfl) (fun c a w h => hP c a _ _ w h) (hS.partD (.cons _ (.cons _ (.cons_cons _ (.cons_cons _ (.cons_cons _ (.cons_cons _ (.cons_cons _ .slnil))))))) 10 rfl (.refl _)) (fun w1 hS => does_move rfl) ?_
          intro a hA
          refine any_take (v := .agg #[.bool ((rb T)), .slice zo335 ((words T.natAbs).length) zc336, .bool false, .slice none 0 0, .slice uo337 ((words 1).length) uc338]) hA 6 rfl rfl rfl rfl (by kernel_rfl) (by kernel_rfl) (by kernel_rfl) (fun c a w h => hP c a _ _ w h) (hS.partD (.cons _ (.cons _ (.cons_cons _ (.cons_cons _ (.cons_cons _ (.cons_cons _ (.cons_cons _ .slnil))))))) 10 rfl (.refl _)) (fun w1 hS => does_extract (vs := [.agg #[.bool ((rb T)), .slice zo335 ((words T.natAbs).length) zc336, .bool false, .slice none 0 0, .slice uo337 ((words 1).length) uc338], .agg #[.bool ((rb ((R : Nat) : Int))), .slice zo339 ((words ((R : Nat) : Int).natAbs).length) zc340, .bool false, .slice none 0 0, .slice uo341 ((words D).length) uc342]]) rfl rfl) ?_
          intro a hA
          refine any_take (v := .agg #[.bool ((rb ((R : Nat) : Int))), .slice zo339 ((words ((R : Nat) : Int).natAbs).length) zc340, .bool false, .slice none 0 0, .slice uo341 ((words D).length) uc342]) hA 7 rfl rfl rfl rfl (by kernel_rfl) (by kernel_rfl) (by kernel_rfl) (fun c a w h => hP c a _ _ w h) (hS.partD (.cons _ (.cons _ (.cons_cons _ (.cons_cons _ (.cons_cons _ (.cons_cons _ (.cons_cons _ .slnil))))))) 10 rfl (.refl _)) (fun w1 hS => does_extract (vs := [.agg #[.bool ((rb T)), .slice zo335 ((words T.natAbs).length) zc336, .bool false, .slice none 0 0, .slice uo337 ((words 1).length) uc338], .agg #[.bool ((rb ((R : Nat) : Int))), .slice zo339 ((words ((R : Nat) : Int).natAbs).length) zc340, .bool false, .slice none 0 0, .slice uo341 ((words D).length) uc342]]) rfl rfl) ?_
          intro a hA
          refine any_one (by kernel_rfl) (op_store (us := [.bool ((rb T)), .slice zo335 ((words T.natAbs).length) zc336, .bool false, .slice none 0 0, .slice uo337 ((words 1).length) uc338]) hA hS 10 rfl rfl rfl (sets_store (cs := [.bool ((rb T)), .slice zo335 ((words T.natAbs).length) zc336, .bool false, .slice none 0 0, .slice uo337 ((words 1).length) uc338]) rfl rfl rfl (by kernel_rfl) hS 0 rfl rfl rfl) 0 rfl rfl rfl rfl ?_)
          intro w349 hS
          refine ⟨(hS.partD (.cons _ (.cons _ (.cons_cons _ (.cons_cons _ (.cons_cons _ (.cons_cons _ (.cons_cons _ .slnil))))))) 10 rfl (.refl _)), ?_⟩
          refine any_one (by kernel_rfl) (op_store (us := [.bool ((rb ((R : Nat) : Int))), .slice zo339 ((words ((R : Nat) : Int).natAbs).length) zc340, .bool false, .slice none 0 0, .slice uo341 ((words D).length) uc342]) hA hS 11 rfl rfl rfl (sets_store (cs := [.bool ((rb ((R : Nat) : Int))), .slice zo339 ((words ((R : Nat) : Int).natAbs).length) zc340, .bool false, .slice none 0 0, .slice uo341 ((words D).length) uc342]) rfl rfl rfl (by kernel_rfl) hS 1 rfl rfl rfl) 1 rfl rfl rfl rfl ?_)
          intro w350 hS
          refine ⟨(hS.partD (.cons _ (.cons _ (.cons_cons _ (.cons_cons _ (.cons_cons _ (.cons_cons _ (.cons_cons _ .slnil))))))) 10 rfl (.refl _)), ?_⟩
          refine any_end (by kernel_rfl) ?_
          refine hJ96 _ _ ⟨g333, g307, zo335, zc336, uo337, uc338, zo339, zc340, uo341, uc342, p125_1, p125_c1, p125_2, p125_c2, p125_3, p125_c3, p309_1, p309_c1, p309_2, p309_c2, p309_3, p309_c3, hA.keep _ ⟨rfl, rfl, rfl, rfl, rfl, rfl, rfl, rfl, rfl, rfl, rfl, rfl, rfl, rfl, rfl, rfl, rfl, rfl, rfl, rfl, rfl, rfl, rfl, rfl, rfl, rfl, trivial⟩, ((hS.pickR [(uo341, words D), (zo339, words ((R : Nat) : Int).natAbs), (uo337, words 1), (zo335, words T.natAbs), (p309_3, words (spD x y)), (p309_2, words (spY x y).natAbs), (p309_1, words (spX x y).natAbs), (p125_3, words (spD u v)), (p125_2, words (spY u v).natAbs), (p125_1, words (spX u v).natAbs), (u4, words y.den), (u3, words y.num.natAbs), (u2, words x.den), (u1, words x.num.natAbs), (a4, words v.den), (a3, words v.num.natAbs), (a2, words u.den), (a1, words u.num.natAbs)] ⟨⟨0, rfl⟩, ⟨⟨1, rfl⟩, ⟨⟨2, rfl⟩, ⟨⟨3, rfl⟩, ⟨⟨4, rfl⟩, ⟨⟨5, rfl⟩, ⟨⟨6, rfl⟩, ⟨⟨7, rfl⟩, ⟨⟨8, rfl⟩, ⟨⟨9, rfl⟩, ⟨⟨10, rfl⟩, ⟨⟨11, rfl⟩, ⟨⟨12, rfl⟩, ⟨⟨13, rfl⟩, ⟨⟨14, rfl⟩, ⟨⟨15, rfl⟩, ⟨⟨16, rfl⟩, ⟨⟨17, rfl⟩, trivial⟩⟩⟩⟩⟩⟩⟩⟩⟩⟩⟩⟩⟩⟩⟩⟩⟩⟩).pickL [(g307, [.bool ((rb ((R : Nat) : Int))), .slice zo339 ((words ((R : Nat) : Int).natAbs).length) zc340, .bool false, .slice none 0 0, .slice uo341 ((words D).length) uc342]), (g333, [.bool ((rb T)), .slice zo335 ((words T.natAbs).length) zc336, .bool false, .slice none 0 0, .slice uo337 ((words 1).length) uc338]), (g12, [.bool (rb u.num), .slice a1 ((words u.num.natAbs).length) ac1, .slice a2 ((words u.den).length) ac2, .bool (rb v.num), .slice a3 ((words v.num.natAbs).length) ac3, .slice a4 ((words v.den).length) ac4, .bool (rb x.num), .slice u1 ((words x.num.natAbs).length) uc1, .slice u2 ((words x.den).length) uc2, .bool (rb y.num), .slice u3 ((words y.num.natAbs).length) uc3, .slice u4 ((words y.den).length) uc4]), (g8, [.bool false, .slice none 0 0, .slice none 0 0, .bool false, .slice none 0 0, .slice none 0 0]), (g6, [.bool false, .slice none 0 0, .slice none 0 0, .bool false, .slice none 0 0, .slice none 0 0]), (g4, [.bool (rb x.num), .slice u1 ((words x.num.natAbs).length) uc1, .slice u2 ((words x.den).length) uc2, .bool (rb y.num), .slice u3 ((words y.num.natAbs).length) uc3, .slice u4 ((words y.den).length) uc4]), (g2, [.bool (rb u.num), .slice a1 ((words u.num.natAbs).length) ac1, .slice a2 ((words u.den).length) ac2, .bool (rb v.num), .slice a3 ((words v.num.natAbs).length) ac3, .slice a4 ((words v.den).length) ac4])] [1, 0, 2, 3, 4, 5, 6] rfl (by decide)), hs346.nil, hs346.cap, hs345.nil, hs345.cap, hs344.nil, hs344.cap, hs343.nil, hs343.cap, hs312.nil, hs312.cap, hs311.nil, hs311.cap, hs310.nil, hs310.cap, hs128.nil, hs128.cap, hs127.nil, hs127.cap, hs126.nil, hs126.cap⟩
      · refine op_new (vs := [.bool false, .slice none 0 0, .bool false, .slice none 0 0, .slice none 0 0]) (t := 48) hA hS 8 rfl rfl rfl rfl (fun g => .pointer (some ⟨g, 0, none⟩)) (does_alloc (z := .agg #[.bool false, .slice none 0 0, .bool false, .slice none 0 0, .slice none 0 0]) (by kernel_rfl) rfl) rfl ?_
        intro g351 w352 hS
        refine ⟨(hS.partD (.cons _ (.cons _ (.cons_cons _ (.cons_cons _ (.cons_cons _ (.cons_cons _ (.cons_cons _ .slnil))))))) 3 rfl (.refl _)), ?_⟩
        intro a hA
        refine any_one (by kernel_rfl) (op_call hA 3 rfl rfl rfl rfl (enters_func  rfl rfl (fun w => by kernel_rfl)) (zspread_any (show Nm _ (Q6.rat x y) u1 uc1 u2 uc2 u3 uc3 u4 uc4 from ⟨⟨(hS.rd 6 rfl), hb.s1.nil, hb.s1.cap⟩, ⟨(hS.rd 5 rfl), hb.s2.nil, hb.s2.cap⟩, ⟨(hS.rd 4 rfl), hb.s3.nil, hb.s3.cap⟩, ⟨(hS.rd 3 rfl), hb.s4.nil, hb.s4.cap⟩⟩) hx hy) ?_)
        rintro _ w358 ⟨p353_1, p353_c1, p353_2, p353_c2, p353_3, p353_c3, rfl, hs354, hs355, hs356, hb357⟩
        replace hS := hS.call hb357
        replace hS := hS.addR hs354.rd
        replace hS := hS.addR hs355.rd
        replace hS := hS.addR hs356.rd
        refine ⟨_, rfl, (hS.partD (.cons _ (.cons _ (.cons_cons _ (.cons_cons _ (.cons_cons _ (.cons_cons _ (.cons_cons _ .slnil))))))) 6 rfl (.refl _)), ?_⟩
        intro a hA
        refine any_one (by kernel_rfl) (op_call hA 4 rfl rfl rfl rfl (enters_func  rfl rfl (fun w => by kernel_rfl)) (zdivmod_as ⟨(hS.rd 5 rfl), hs126.nil, hs126.cap⟩ ⟨(hS.rd 4 rfl), hs127.nil, hs127.cap⟩ ⟨(hS.rd 3 rfl), hs128.nil, hs128.cap⟩ ⟨(hS.rd 2 rfl), hs354.nil, hs354.cap⟩ ⟨(hS.rd 1 rfl), hs355.nil, hs355.cap⟩ ⟨(hS.rd 0 rfl), hs356.nil, hs356.cap⟩ (Nat.le_trans (spX_len hu hv) (by decide)) (Nat.le_trans (spY_len hu hv) (by decide)) (Nat.le_trans (spD_len hu hv) (by decide)) (Nat.le_trans (spX_len hx hy) (by decide)) (Nat.le_trans (spY_len hx hy) (by decide)) (Nat.le_trans (spD_len hx hy) (by decide)) (spD_ne u v) hx2 hT hR hD) ?_)
        rintro _ w372 ⟨zo359, zc360, uo361, uc362, zo363, zc364, uo365, uc366, rfl, hs367, hs368, hs369, hs370, hb371⟩
        replace hS := hS.call hb371
        replace hS := hS.addR hs367.rd
        replace hS := hS.addR hs368.rd
        replace hS := hS.addR hs369.rd
        replace hS := hS.addR hs370.rd
        refine ⟨_, rfl, (hS.partD (.cons _ (.cons _ (.cons_cons _ (.cons_cons _ (.cons_cons _ (.cons_cons _ (.cons_cons _ .slnil))))))) 10 rfl (.refl _)), ?_⟩
        intro a hA
        refine any_take hA 5 rfl rfl rfl rfl (by kernel_rfl) (by kernel_rfl) (by kernel_rfl) (fun c a w h => hP c a _ _ w h) (hS.partD (.cons _ (.cons _ (.cons_cons _ (.cons_cons _ (.cons_cons _ (.cons_cons _ (.cons_cons _ .slnil))))))) 10 rfl (.refl _)) (fun w1 hS => does_move rfl) ?_
        intro a hA
        refine any_take (v := .agg #[.bool ((rb T)), .slice zo359 ((words T.natAbs).length) zc360, .bool false, .slice none 0 0, .slice uo361 ((words 1).length) uc362]) hA 6 rfl rfl rfl rfl (by kernel_rfl) (by kernel_rfl) (by kernel_rfl) (fun c a w h => hP c a _ _ w h) (hS.partD (.cons _ (.cons _ (.cons_cons _ (.cons_cons _ (.cons_cons _ (.cons_cons _ (.cons_cons _ .slnil))))))) 10 rfl (.refl _)) (fun w1 hS => does_extract (vs := [.agg #[.bool ((rb T)), .slice zo359 ((words T.natAbs).length) zc360, .bool false, .slice none 0 0, .slice uo361 ((words 1).length) uc362], .agg #[.bool ((rb ((R : Nat) : Int))), .slice zo363 ((words ((R : Nat) : Int).natAbs).length) zc364, .bool false, .slice none 0 0, .slice uo365 ((words D).length) uc366]]) rfl rfl) ?_
        intro a hA
        refine any_take (v := .agg #[.bool ((rb ((R : Nat) : Int))), .slice zo363 ((words ((R : Nat) : Int).natAbs).length) zc364, .bool false, .slice none 0 0, .slice uo365 ((words D).length) uc366]) hA 7 rfl rfl rfl rfl (by kernel_rfl) (by kernel_rfl) (by kernel_rfl) (fun c a w h => hP c a _ _ w h) (hS.partD (.cons _ (.cons _ (.cons_cons _ (.cons_cons _ (.cons_cons _ (.cons_cons _ (.cons_cons _ .slnil))))))) 10 rfl (.refl _)) (fun w1 hS => does_extract (vs := [.agg #[.bool ((rb T)), .slice zo359 ((words T.natAbs).length) zc360, .bool false, .slice none 0 0, .slice uo361 ((words 1).length) uc362], .agg #[.bool ((rb ((R : Nat) : Int))), .slice zo363 ((words ((R : Nat) : Int).natAbs).length) zc364, .bool false, .slice none 0 0, .slice uo365 ((words D).length) uc366]]) rfl rfl) ?_
        intro a hA
        refine any_one (by kernel_rfl) (op_store (us := [.bool ((rb T)), .slice zo359 ((words T.natAbs).length) zc360, .bool false, .slice none 0 0, .slice uo361 ((words 1).length) uc362]) hA hS 10 rfl rfl rfl (sets_store (cs := [.bool ((rb T)), .slice zo359 ((words T.natAbs).length) zc360, .bool false, .slice none 0 0, .slice uo361 ((words 1).length) uc362]) rfl rfl rfl (by kernel_rfl) hS 0 rfl rfl rfl) 0 rfl rfl rfl rfl ?_)
        intro w373 hS
        refine ⟨(hS.partD (.cons _ (.cons _ (.cons_cons _ (.cons_cons _ (.cons_cons _ (.cons_cons _ (.cons_cons _ .slnil))))))) 10 rfl (.refl _)), ?_⟩
        refine any_one (by kernel_rfl) (op_store (us := [.bool ((rb ((R : Nat) : Int))), .slice zo363 ((words ((R : Nat) : Int).natAbs).length) zc364, .bool false, .slice none 0 0, .slice uo365 ((words D).length) uc366]) hA hS 11 rfl rfl rfl (sets_store (cs := [.bool ((rb ((R : Nat) : Int))), .slice zo363 ((words ((R : Nat) : Int).natAbs).length) zc364, .bool false, .slice none 0 0, .slice uo365 ((words D).length) uc366]) rfl rfl rfl (by kernel_rfl) hS 1 rfl rfl rfl) 1 rfl rfl rfl rfl ?_)
        intro w374 hS
        refine ⟨(hS.partD (.cons _ (.cons _ (.cons_cons _ (.cons_cons _ (.cons_cons _ (.cons_cons _ (.cons_cons _ .slnil))))))) 10 rfl (.refl _)), ?_⟩
        refine any_end (by kernel_rfl) ?_
        refine hJ96 _ _ ⟨g351, g307, zo359, zc360, uo361, uc362, zo363, zc364, uo365, uc366, p125_1, p125_c1, p125_2, p125_c2, p125_3, p125_c3, p353_1, p353_c1, p353_2, p353_c2, p353_3, p353_c3, hA.keep _ ⟨rfl, rfl, rfl, rfl, rfl, rfl, rfl, rfl, rfl, rfl, rfl, rfl, rfl, rfl, rfl, rfl, rfl, rfl, rfl, rfl, rfl, rfl, rfl, rfl, rfl, rfl, trivial⟩, ((hS.pickR [(uo365, words D), (zo363, words ((R : Nat) : Int).natAbs), (uo361, words 1), (zo359, words T.natAbs), (p353_3, words (spD x y)), (p353_2, words (spY x y).natAbs), (p353_1, words (spX x y).natAbs), (p125_3, words (spD u v)), (p125_2, words (spY u v).natAbs), (p125_1, words (spX u v).natAbs), (u4, words y.den), (u3, words y.num.natAbs), (u2, words x.den), (u1, words x.num.natAbs), (a4, words v.den), (a3, words v.num.natAbs), (a2, words u.den), (a1, words u.num.natAbs)] ⟨⟨0, rfl⟩, ⟨⟨1, rfl⟩, ⟨⟨2, rfl⟩, ⟨⟨3, rfl⟩, ⟨⟨4, rfl⟩, ⟨⟨5, rfl⟩, ⟨⟨6, rfl⟩, ⟨⟨7, rfl⟩, ⟨⟨8, rfl⟩, ⟨⟨9, rfl⟩, ⟨⟨10, rfl⟩, ⟨⟨11, rfl⟩, ⟨⟨12, rfl⟩, ⟨⟨13, rfl⟩, ⟨⟨14, rfl⟩, ⟨⟨15, rfl⟩, ⟨⟨16, rfl⟩, ⟨⟨17, rfl⟩, trivial⟩⟩⟩⟩⟩⟩⟩⟩⟩⟩⟩⟩⟩⟩⟩⟩⟩⟩).pickL [(g307, [.bool ((rb ((R : Nat) : Int))), .slice zo363 ((words ((R : Nat) : Int).natAbs).length) zc364, .bool false, .slice none 0 0, .slice uo365 ((words D).length) uc366]), (g351, [.bool ((rb T)), .slice zo359 ((words T.natAbs).length) zc360, .bool false, .slice none 0 0, .slice uo361 ((words 1).length) uc362]), (g12, [.bool (rb u.num), .slice a1 ((words u.num.natAbs).length) ac1, .slice a2 ((words u.den).length) ac2, .bool (rb v.num), .slice a3 ((words v.num.natAbs).length) ac3, .slice a4 ((words v.den).length) ac4, .bool (rb x.num), .slice u1 ((words x.num.natAbs).length) uc1, .slice u2 ((words x.den).length) uc2, .bool (rb y.num), .slice u3 ((words y.num.natAbs).length) uc3, .slice u4 ((words y.den).length) uc4]), (g8, [.bool false, .slice none 0 0, .slice none 0 0, .bool false, .slice none 0 0, .slice none 0 0]), (g6, [.bool false, .slice none 0 0, .slice none 0 0, .bool false, .slice none 0 0, .slice none 0 0]), (g4, [.bool (rb x.num), .slice u1 ((words x.num.natAbs).length) uc1, .slice u2 ((words x.den).length) uc2, .bool (rb y.num), .slice u3 ((words y.num.natAbs).length) uc3, .slice u4 ((words y.den).length) uc4]), (g2, [.bool (rb u.num), .slice a1 ((words u.num.natAbs).length) ac1, .slice a2 ((words u.den).length) ac2, .bool (rb v.num), .slice a3 ((words v.num.natAbs).length) ac3, .slice a4 ((words v.den).length) ac4])] [1, 0, 2, 3, 4, 5, 6] rfl (by decide)), hs370.nil, hs370.cap, hs369.nil, hs369.cap, hs368.nil, hs368.cap, hs367.nil, hs367.cap, hs356.nil, hs356.cap, hs355.nil, hs355.cap, hs354.nil, hs354.cap, hs128.nil, hs128.cap, hs127.nil, hs127.cap, hs126.nil, hs126.cap⟩
  · refine op_new (vs := [.bool false, .slice none 0 0, .bool false, .slice none 0 0, .slice none 0 0]) (t := 48) hA hS 8 rfl rfl rfl rfl (fun g => .pointer (some ⟨g, 0, none⟩)) (does_alloc (z := .agg #[.bool false, .slice none 0 0, .bool false, .slice none 0 0, .slice none 0 0]) (by kernel_rfl) rfl) rfl ?_
    intro g375 w376 hS
    refine ⟨(hS.partD (.cons _ (.cons_cons _ (.cons_cons _ (.cons_cons _ (.cons_cons _ (.cons_cons _ .slnil)))))) 0 rfl (.refl _)), ?_⟩
    intro a hA
    refine any_many (rs := [1, 9]) (by kernel_rfl) (by simp) ⟨?_, ?_, trivial⟩
    · refine op_call hA 1 rfl rfl rfl rfl (enters_func  rfl rfl (fun w => by kernel_rfl)) (zspread_any (show Nm _ (Q6.rat u v) a1 ac1 a2 ac2 a3 ac3 a4 ac4 from ⟨⟨(hS.rd 7 rfl), ha.s1.nil, ha.s1.cap⟩, ⟨(hS.rd 6 rfl), ha.s2.nil, ha.s2.cap⟩, ⟨(hS.rd 5 rfl), ha.s3.nil, ha.s3.cap⟩, ⟨(hS.rd 4 rfl), ha.s4.nil, ha.s4.cap⟩⟩) hu hv) ?_
      rintro _ w382 ⟨p377_1, p377_c1, p377_2, p377_c2, p377_3, p377_c3, rfl, hs378, hs379, hs380, hb381⟩
      replace hS := hS.call hb381
      replace hS := hS.addR hs378.rd
      replace hS := hS.addR hs379.rd
      replace hS := hS.addR hs380.rd
      refine ⟨_, rfl, (hS.partD (.cons _ (.cons_cons _ (.cons_cons _ (.cons_cons _ (.cons_cons _ (.cons_cons _ .slnil)))))) 3 rfl (.refl _)), ?_⟩
      intro a hA
      refine any_many (rs := [3, 9]) (by kernel_rfl) (by simp) ⟨?_, ?_, trivial⟩
      · refine op_call hA 3 rfl rfl rfl rfl (enters_func  rfl rfl (fun w => by kernel_rfl)) (zspread_any (show Nm _ (Q6.rat x y) u1 uc1 u2 uc2 u3 uc3 u4 uc4 from ⟨⟨(hS.rd 6 rfl), hb.s1.nil, hb.s1.cap⟩, ⟨(hS.rd 5 rfl), hb.s2.nil, hb.s2.cap⟩, ⟨(hS.rd 4 rfl), hb.s3.nil, hb.s3.cap⟩, ⟨(hS.rd 3 rfl), hb.s4.nil, hb.s4.cap⟩⟩) hx hy) ?_
        rintro _ w388 ⟨p383_1, p383_c1, p383_2, p383_c2, p383_3, p383_c3, rfl, hs384, hs385, hs386, hb387⟩
        replace hS := hS.call hb387
        replace hS := hS.addR hs384.rd
        replace hS := hS.addR hs385.rd
        replace hS := hS.addR hs386.rd
        refine ⟨_, rfl, (hS.partD (.cons _ (.cons_cons _ (.cons_cons _ (.cons_cons _ (.cons_cons _ (.cons_cons _ .slnil)))))) 6 rfl (.refl _)), ?_⟩
        intro a hA
        refine any_many (rs := [4, 9]) (by kernel_rfl) (by simp) ⟨?_, ?_, trivial⟩
        · refine op_call hA 4 rfl rfl rfl rfl (enters_func  rfl rfl (fun w => by kernel_rfl)) (zdivmod_as ⟨(hS.rd 5 rfl), hs378.nil, hs378.cap⟩ ⟨(hS.rd 4 rfl), hs379.nil, hs379.cap⟩ ⟨(hS.rd 3 rfl), hs380.nil, hs380.cap⟩ ⟨(hS.rd 2 rfl), hs384.nil, hs384.cap⟩ ⟨(hS.rd 1 rfl), hs385.nil, hs385.cap⟩ ⟨(hS.rd 0 rfl), hs386.nil, hs386.cap⟩ (Nat.le_trans (spX_len hu hv) (by decide)) (Nat.le_trans (spY_len hu hv) (by decide)) (Nat.le_trans (spD_len hu hv) (by decide)) (Nat.le_trans (spX_len hx hy) (by decide)) (Nat.le_trans (spY_len hx hy) (by decide)) (Nat.le_trans (spD_len hx hy) (by decide)) (spD_ne u v) hx2 hT hR hD) ?_
          rintro _ w402 ⟨zo389, zc390, uo391, uc392, zo393, zc394, uo395, uc396, rfl, hs397, hs398, hs399, hs400, hb401⟩
          replace hS := hS.call hb401
          replace hS := hS.addR hs397.rd
          replace hS := hS.addR hs398.rd
          replace hS := hS.addR hs399.rd
          replace hS := hS.addR hs400.rd
          refine ⟨_, rfl, (hS.partD (.cons _ (.cons_cons _ (.cons_cons _ (.cons_cons _ (.cons_cons _ (.cons_cons _ .slnil)))))) 10 rfl (.refl _)), ?_⟩
          intro a hA
          refine any_take hA 5 rfl rfl rfl rfl (by kernel_rfl) (by kernel_rfl) (by kernel_rfl) (fun c a w h => hP c a _ _ w h) (hS.partD (.cons _ (.cons_cons _ (.cons_cons _ (.cons_cons _ (.cons_cons _ (.cons_cons _ .slnil)))))) 10 rfl (.refl _)) (fun w1 hS => does_move rfl) ?_
          intro a hA
          refine any_take (v := .agg #[.bool ((rb T)), .slice zo389 ((words T.natAbs).length) zc390, .bool false, .slice none 0 0, .slice uo391 ((words 1).length) uc392]) hA 6 rfl rfl rfl rfl (by kernel_rfl) (by kernel_rfl) (by kernel_rfl) (fun c a w h => hP c a _ _ w h) (hS.partD (.cons _ (.cons_cons _ (.cons_cons _ (.cons_cons _ (.cons_cons _ (.cons_cons _ .slnil)))))) 10 rfl (.refl _)) (fun w1 hS => does_extract (vs := [.agg #[.bool ((rb T)), .slice zo389 ((words T.natAbs).length) zc390, .bool false, .slice none 0 0, .slice uo391 ((words 1).length) uc392], .agg #[.bool ((rb ((R : Nat) : Int))), .slice zo393 ((words ((R : Nat) : Int).natAbs).length) zc394, .bool false, .slice none 0 0, .slice uo395 ((words D).length) uc396]]) rfl rfl) ?_
          intro a hA
          refine any_take (v := .agg #[.bool ((rb ((R : Nat) : Int))), .slice zo393 ((words ((R : Nat) : Int).natAbs).length) zc394, .bool false, .slice none 0 0, .slice uo395 ((words D).length) uc396]) hA 7 rfl rfl rfl rfl (by kernel_rfl) (by kernel_rfl) (by kernel_rfl) (fun c a w h => hP c a _ _ w h) (hS.partD (.cons _ (.cons_cons _ (.cons_cons _ (.cons_cons _ (.cons_cons _ (.cons_cons _ .slnil)))))) 10 rfl (.refl _)) (fun w1 hS => does_extract (vs := [.agg #[.bool ((rb T)), .slice zo389 ((words T.natAbs).length) zc390, .bool false, .slice none 0 0, .slice uo391 ((words 1).length) uc392], .agg #[.bool ((rb ((R : Nat) : Int))), .slice zo393 ((words ((R : Nat) : Int).natAbs).length) zc394, .bool false, .slice none 0 0, .slice uo395 ((words D).length) uc396]]) rfl rfl) ?_
          intro a hA
          refine any_one (by kernel_rfl) (op_new (vs := [.bool false, .slice none 0 0, .bool false, .slice none 0 0, .slice none 0 0]) (t := 48) hA hS 9 rfl rfl rfl rfl (fun g => .pointer (some ⟨g, 0, none⟩)) (does_alloc (z := .agg #[.bool false, .slice none 0 0, .bool false, .slice none 0 0, .slice none 0 0]) (by kernel_rfl) rfl) rfl ?_)
          intro g403 w404 hS
          refine ⟨(hS.partD (.cons _ (.cons _ (.cons_cons _ (.cons_cons _ (.cons_cons _ (.cons_cons _ (.cons_cons _ .slnil))))))) 10 rfl (.refl _)), ?_⟩
          intro a hA
          refine any_one (by kernel_rfl) (op_store (us := [.bool ((rb T)), .slice zo389 ((words T.natAbs).length) zc390, .bool false, .slice none 0 0, .slice uo391 ((words 1).length) uc392]) hA hS 10 rfl rfl rfl (sets_store (cs := [.bool ((rb T)), .slice zo389 ((words T.natAbs).length) zc390, .bool false, .slice none 0 0, .slice uo391 ((words 1).length) uc392]) rfl rfl rfl (by kernel_rfl) hS 1 rfl rfl rfl) 1 rfl rfl rfl rfl ?_)
          intro w405 hS
          refine ⟨(hS.partD (.cons _ (.cons _ (.cons_cons _ (.cons_cons _ (.cons_cons _ (.cons_cons _ (.cons_cons _ .slnil))))))) 10 rfl (.refl _)), ?_⟩
          refine any_one (by kernel_rfl) (op_store (us := [.bool ((rb ((R : Nat) : Int))), .slice zo393 ((words ((R : Nat) : Int).natAbs).length) zc394, .bool false, .slice none 0 0, .slice uo395 ((words D).length) uc396]) hA hS 11 rfl rfl rfl (sets_store (cs := [.bool ((rb ((R : Nat) : Int))), .slice zo393 ((words ((R : Nat) : Int).natAbs).length) zc394, .bool false, .slice none 0 0, .slice uo395 ((words D).length) uc396]) rfl rfl rfl (by kernel_rfl) hS 0 rfl rfl rfl) 0 rfl rfl rfl rfl ?_)
          intro w406 hS
          refine ⟨(hS.partD (.cons _ (.cons _ (.cons_cons _ (.cons_cons _ (.cons_cons _ (.cons_cons _ (.cons_cons _ .slnil))))))) 10 rfl (.refl _)), ?_⟩
          refine any_end (by kernel_rfl) ?_
          refine hJ96 _ _ ⟨g375, g403, zo389, zc390, uo391, uc392, zo393, zc394, uo395, uc396, p377_1, p377_c1, p377_2, p377_c2, p377_3, p377_c3, p383_1, p383_c1, p383_2, p383_c2, p383_3, p383_c3, hA.keep _ ⟨rfl, rfl, rfl, rfl, rfl, rfl, rfl, rfl, rfl, rfl, rfl, rfl, rfl, rfl, rfl, rfl, rfl, rfl, rfl, rfl, rfl, rfl, rfl, rfl, rfl, rfl, trivial⟩, ((hS.pickR [(uo395, words D), (zo393, words ((R : Nat) : Int).natAbs), (uo391, words 1), (zo389, words T.natAbs), (p383_3, words (spD x y)), (p383_2, words (spY x y).natAbs), (p383_1, words (spX x y).natAbs), (p377_3, words (spD u v)), (p377_2, words (spY u v).natAbs), (p377_1, words (spX u v).natAbs), (u4, words y.den), (u3, words y.num.natAbs), (u2, words x.den), (u1, words x.num.natAbs), (a4, words v.den), (a3, words v.num.natAbs), (a2, words u.den), (a1, words u.num.natAbs)] ⟨⟨0, rfl⟩, ⟨⟨1, rfl⟩, ⟨⟨2, rfl⟩, ⟨⟨3, rfl⟩, ⟨⟨4, rfl⟩, ⟨⟨5, rfl⟩, ⟨⟨6, rfl⟩, ⟨⟨7, rfl⟩, ⟨⟨8, rfl⟩, ⟨⟨9, rfl⟩, ⟨⟨10, rfl⟩, ⟨⟨11, rfl⟩, ⟨⟨12, rfl⟩, ⟨⟨13, rfl⟩, ⟨⟨14, rfl⟩, ⟨⟨15, rfl⟩, ⟨⟨16, rfl⟩, ⟨⟨17, rfl⟩, trivial⟩⟩⟩⟩⟩⟩⟩⟩⟩⟩⟩⟩⟩⟩⟩⟩⟩⟩).pickL [(g403, [.bool ((rb ((R : Nat) : Int))), .slice zo393 ((words ((R : Nat) : Int).natAbs).length) zc394, .bool false, .slice none 0 0, .slice uo395 ((words D).length) uc396]), (g375, [.bool ((rb T)), .slice zo389 ((words T.natAbs).length) zc390, .bool false, .slice none 0 0, .slice uo391 ((words 1).length) uc392]), (g12, [.bool (rb u.num), .slice a1 ((words u.num.natAbs).length) ac1, .slice a2 ((words u.den).length) ac2, .bool (rb v.num), .slice a3 ((words v.num.natAbs).length) ac3, .slice a4 ((words v.den).length) ac4, .bool (rb x.num), .slice u1 ((words x.num.natAbs).length) uc1, .slice u2 ((words x.den).length) uc2, .bool (rb y.num), .slice u3 ((words y.num.natAbs).length) uc3, .slice u4 ((words y.den).length) uc4]), (g8, [.bool false, .slice none 0 0, .slice none 0 0, .bool false, .slice none 0 0, .slice none 0 0]), (g6, [.bool false, .slice none 0 0, .slice none 0 0, .bool false, .slice none 0 0, .slice none 0 0]), (g4, [.bool (rb x.num), .slice u1 ((words x.num.natAbs).length) uc1, .slice u2 ((words x.den).length) uc2, .bool (rb y.num), .slice u3 ((words y.num.natAbs).length) uc3, .slice u4 ((words y.den).length) uc4]), (g2, [.bool (rb u.num), .slice a1 ((words u.num.natAbs).length) ac1, .slice a2 ((words u.den).length) ac2, .bool (rb v.num), .slice a3 ((words v.num.natAbs).length) ac3, .slice a4 ((words v.den).length) ac4])] [0, 1, 2, 3, 4, 5, 6] rfl (by decide)), hs400.nil, hs400.cap, hs399.nil, hs399.cap, hs398.nil, hs398.cap, hs397.nil, hs397.cap, hs386.nil, hs386.cap, hs385.nil, hs385.cap, hs384.nil, hs384.cap, hs380.nil, hs380.cap, hs379.nil, hs379.cap, hs378.nil, hs378.cap⟩
        · refine op_new (vs := [.bool false, .slice none 0 0, .bool false, .slice none 0 0, .slice none 0 0]) (t := 48) hA hS 9 rfl rfl rfl rfl (fun g => .pointer (some ⟨g, 0, none⟩)) (does_alloc (z := .agg #[.bool false, .slice none 0 0, .bool false, .slice none 0 0, .slice none 0 0]) (by kernel_rfl) rfl) rfl ?_
          intro g407 w408 hS
          refine ⟨(hS.partD (.cons _ (.cons _ (.cons_cons _ (.cons_cons _ (.cons_cons _ (.cons_cons _ (.cons_cons _ .slnil))))))) 6 rfl (.refl _)), ?_⟩
          intro a hA
          refine any_one (by kernel_rfl) (op_call hA 4 rfl rfl rfl rfl (enters_func  rfl rfl (fun w => by kernel_rfl)) (zdivmod_as ⟨(hS.rd 5 rfl), hs378.nil, hs378.cap⟩ ⟨(hS.rd 4 rfl), hs379.nil, hs379.cap⟩ ⟨(hS.rd 3 rfl), hs380.nil, hs380.cap⟩ ⟨(hS.rd 2 rfl), hs384.nil, hs384.cap⟩ ⟨(hS.rd 1 rfl), hs385.nil, hs385.cap⟩ ⟨(hS.rd 0 rfl), hs386.nil, hs386.cap⟩ (Nat.le_trans (spX_len hu hv) (by decide)) (Nat.le_trans (spY_len hu hv) (by decide)) (Nat.le_trans (spD_len hu hv) (by decide)) (Nat.le_trans (spX_len hx hy) (by decide)) (Nat.le_trans (spY_len hx hy) (by decide)) (Nat.le_trans (spD_len hx hy) (by decide)) (spD_ne u v) hx2 hT hR hD) ?_)
          rintro _ w422 ⟨zo409, zc410, uo411, uc412, zo413, zc414, uo415, uc416, rfl, hs417, hs418, hs419, hs420, hb421⟩
          replace hS := hS.call hb421
          replace hS := hS.addR hs417.rd
          replace hS := hS.addR hs418.rd
          replace hS := hS.addR hs419.rd
          replace hS := hS.addR hs420.rd
          refine ⟨_, rfl, (hS.partD (.cons _ (.cons _ (.cons_cons _ (.cons_cons _ (.cons_cons _ (.cons_cons _ (.cons_cons _ .slnil))))))) 10 rfl (.refl _)), ?_⟩
          intro a hA
          refine any_take hA 5 rfl rfl rfl rfl (by kernel_rfl) (by kernel_rfl) (by kernel_rfl) (fun c a w h => hP c a _ _ w h) (hS.partD (.cons _ (.cons _ (.cons_cons _ (.cons_cons _ (.cons_cons _ (.cons_cons _ (.cons_cons _ .slnil))))))) 10 rfl (.refl _)) (fun w1 hS => does_move rfl) ?_
          intro a hA
          refine any_take (v := .agg #[.bool ((rb T)), .slice zo409 ((words T.natAbs).length) zc410, .bool false, .slice none 0 0, .slice uo411 ((words 1).length) uc412]) hA 6 rfl rfl rfl rfl (by kernel_rfl) (by kernel_rfl) (by kernel_rfl) (fun c a w h => hP c a _ _ w h) (hS.partD (.cons _ (.cons _ (.cons_cons _ (.cons_cons _ (.cons_cons _ (.cons_cons _ (.cons_cons _ .slnil))))))) 10 rfl (.refl _)) (fun w1 hS => does_extract (vs := [.agg #[.bool ((rb T)), .slice zo409 ((words T.natAbs).length) zc410, .bool false, .slice none 0 0, .slice uo411 ((words 1).length) uc412], .agg #[.bool ((rb ((R : Nat) : Int))), .slice zo413 ((words ((R : Nat) : Int).natAbs).length) zc414, .bool false, .slice none 0 0, .slice uo415 ((words D).length) uc416]]) rfl rfl) ?_
          intro a hA
          refine any_take (v := .agg #[.bool ((rb ((R : Nat) : Int))), .slice zo413 ((words ((R : Nat) : Int).natAbs).length) zc414, .bool false, .slice none 0 0, .slice uo415 ((words D).length) uc416]) hA 7 rfl rfl rfl rfl (by kernel_rfl) (by kernel_rfl) (by kernel_rfl) (fun c a w h => hP c a _ _ w h) (hS.partD (.cons _ (.cons _ (.cons_cons _ (.cons_cons _ (.cons_cons _ (.cons_cons _ (.cons_cons _ .slnil))))))) 10 rfl (.refl _)) (fun w1 hS => does_extract (vs := [.agg #[.bool ((rb T)), .slice zo409 ((words T.natAbs).length) zc410, .bool false, .slice none 0 0, .slice uo411 ((words 1).length) uc412], .agg #[.bool ((rb ((R : Nat) : Int))), .slice zo413 ((words ((R : Nat) : Int).natAbs).length) zc414, .bool false, .slice none 0 0, .slice uo415 ((words D).length) uc416]]) rfl rfl) ?_
          intro a hA
          refine any_one (by kernel_rfl) (op_store (us := [.bool ((rb T)), .slice zo409 ((words T.natAbs).length) zc410, .bool false, .slice none 0 0, .slice uo411 ((words 1).length) uc412]) hA hS 10 rfl rfl rfl (sets_store (cs := [.bool ((rb T)), .slice zo409 ((words T.natAbs).length) zc410, .bool false, .slice none 0 0, .slice uo411 ((words 1).length) uc412]) rfl rfl rfl (by kernel_rfl) hS 1 rfl rfl rfl) 1 rfl rfl rfl rfl ?_)
          intro w423 hS
          refine ⟨(hS.partD (.cons _ (.cons _ (.cons_cons _ (.cons_cons _ (.cons_cons _ (.cons_cons _ (.cons_cons _ .slnil))))))) 10 rfl (.refl _)), ?_⟩
          refine any_one (by kernel_rfl) (op_store (us := [.bool ((rb ((R : Nat) : Int))), .slice zo413 ((words ((R : Nat) : Int).natAbs).length) zc414, .bool false, .slice none 0 0, .slice uo415 ((words D).length) uc416]) hA hS 11 rfl rfl rfl (sets_store (cs := [.bool ((rb ((R : Nat) : Int))), .slice zo413 ((words ((R : Nat) : Int).natAbs).length) zc414, .bool false, .slice none 0 0, .slice uo415 ((words D).length) uc416]) rfl rfl rfl (by kernel_rfl) hS 0 rfl rfl rfl) 0 rfl rfl rfl rfl ?_)
          intro w424 hS
          refine ⟨(hS.partD (.cons _ (.cons _ (.cons_cons _ (.cons_cons _ (.cons_cons _ (.cons_cons _ (.cons_cons _ .slnil))))))) 10 rfl (.refl _)), ?_⟩
          refine any_end (by kernel_rfl) ?_
          refine hJ96 _ _ ⟨g375, g407, zo409, zc410, uo411, uc412, zo413, zc414, uo415, uc416, p377_1, p377_c1, p377_2, p377_c2, p377_3, p377_c3, p383_1, p383_c1, p383_2, p383_c2, p383_3, p383_c3, hA.keep _ ⟨rfl, rfl, rfl, rfl, rfl, rfl, rfl, rfl, rfl, rfl, rfl, rfl, rfl, rfl, rfl, rfl, rfl, rfl, rfl, rfl, rfl, rfl, rfl, rfl, rfl, rfl, trivial⟩, ((hS.pickR [(uo415, words D), (zo413, words ((R : Nat) : Int).natAbs), (uo411, words 1), (zo409, words T.natAbs), (p383_3, words (spD x y)), (p383_2, words (spY x y).natAbs), (p383_1, words (spX x y).natAbs), (p377_3, words (spD u v)), (p377_2, words (spY u v).natAbs), (p377_1, words (spX u v).natAbs), (u4, words y.den), (u3, words y.num.natAbs), (u2, words x.den), (u1, words x.num.natAbs), (a4, words v.den), (a3, words v.num.natAbs), (a2, words u.den), (a1, words u.num.natAbs)] ⟨⟨0, rfl⟩, ⟨⟨1, rfl⟩, ⟨⟨2, rfl⟩, ⟨⟨3, rfl⟩, ⟨⟨4, rfl⟩, ⟨⟨5, rfl⟩, ⟨⟨6, rfl⟩, ⟨⟨7, rfl⟩, ⟨⟨8, rfl⟩, ⟨⟨9, rfl⟩, ⟨⟨10, rfl⟩, ⟨⟨11, rfl⟩, ⟨⟨12, rfl⟩, ⟨⟨13, rfl⟩, ⟨⟨14, rfl⟩, ⟨⟨15, rfl⟩, ⟨⟨16, rfl⟩, ⟨⟨17, rfl⟩, trivial⟩⟩⟩⟩⟩⟩⟩⟩⟩⟩⟩⟩⟩⟩⟩⟩⟩⟩).pickL [(g407, [.bool ((rb ((R : Nat) : Int))), .slice zo413 ((words ((R : Nat) : Int).natAbs).length) zc414, .bool false, .slice none 0 0, .slice uo415 ((words D).length) uc416]), (g375, [.bool ((rb T)), .slice zo409 ((words T.natAbs).length) zc410, .bool false, .slice none 0 0, .slice uo411 ((words 1).length) uc412]), (g12, [.bool (rb u.num), .slice a1 ((words u.num.natAbs).length) ac1, .slice a2 ((words u.den).length) ac2, .bool (rb v.num), .slice a3 ((words v.num.natAbs).length) ac3, .slice a4 ((words v.den).length) ac4, .bool (rb x.num), .slice u1 ((words x.num.natAbs).length) uc1, .slice u2 ((words x.den).length) uc2, .bool (rb y.num), .slice u3 ((words y.num.natAbs).length) uc3, .slice u4 ((words y.den).length) uc4]), (g8, [.bool false, .slice none 0 0, .slice none 0 0, .bool false, .slice none 0 0, .slice none 0 0]), (g6, [.bool false, .slice none 0 0, .slice none 0 0, .bool false, .slice none 0 0, .slice none 0 0]), (g4, [.bool (rb x.num), .slice u1 ((words x.num.natAbs).length) uc1, .slice u2 ((words x.den).length) uc2, .bool (rb y.num), .slice u3 ((words y.num.natAbs).length) uc3, .slice u4 ((words y.den).length) uc4]), (g2, [.bool (rb u.num), .slice a1 ((words u.num.natAbs).length) ac1, .slice a2 ((words u.den).length) ac2, .bool (rb v.num), .slice a3 ((words v.num.natAbs).length) ac3, .slice a4 ((words v.den).length) ac4])] [0, 1, 2, 3, 4, 5, 6] rfl (by decide)), hs420.nil, hs420.cap, hs419.nil, hs419.cap, hs418.nil, hs418.cap, hs417.nil, hs417.cap, hs386.nil, hs386.cap, hs385.nil, hs385.cap, hs384.nil, hs384.cap, hs380.nil, hs380.cap, hs379.nil, hs379.cap, hs378.nil, hs378.cap⟩
      · refine op_new (vs := [.bool false, .slice none 0 0, .bool false, .slice none 0 0, .slice none 0 0]) (t := 48) hA hS 9 rfl rfl rfl rfl (fun g => .pointer (some ⟨g, 0, none⟩)) (does_alloc (z := .agg #[.bool false, .slice none 0 0, .bool false, .slice none 0 0, .slice none 0 0]) (by kernel_rfl) rfl) rfl ?_
        intro g425 w426 hS
        refine ⟨(hS.partD (.cons _ (.cons _ (.cons_cons _ (.cons_cons _ (.cons_cons _ (.cons_cons _ (.cons_cons _ .slnil))))))) 3 rfl (.refl _)), ?_⟩
        intro a hA
        refine any_one (by kernel_rfl) (op_call hA 3 rfl rfl rfl rfl (enters_func  rfl rfl (fun w => by kernel_rfl)) (zspread_any (show Nm _ (Q6.rat x y) u1 uc1 u2 uc2 u3 uc3 u4 uc4 from ⟨⟨(hS.rd 6 rfl), hb.s1.nil, hb.s1.cap⟩, ⟨(hS.rd 5 rfl), hb.s2.nil, hb.s2.cap⟩, ⟨(hS.rd 4 rfl), hb.s3.nil, hb.s3.cap⟩, ⟨(hS.rd 3 rfl), hb.s4.nil, hb.s4.cap⟩⟩) hx hy) ?_)
        rintro _ w432 ⟨p427_1, p427_c1, p427_2, p427_c2, p427_3, p427_c3, rfl, hs428, hs429, hs430, hb431⟩
        replace hS := hS.call hb431
        replace hS := hS.addR hs428.rd
        replace hS := hS.addR hs429.rd
        replace hS := hS.addR hs430.rd
        refine ⟨_, rfl, (hS.partD (.cons _ (.cons _ (.cons_cons _ (.cons_cons _ (.cons_cons _ (.cons_cons _ (.cons_cons _ .slnil))))))) 6 rfl (.refl _)), ?_⟩
        intro a hA
        refine any_one (by kernel_rfl) (op_call hA 4 rfl rfl rfl rfl (enters_func  rfl rfl (fun w => by kernel_rfl)) (zdivmod_as ⟨(hS.rd 5 rfl), hs378.nil, hs378.cap⟩ ⟨(hS.rd 4 rfl), hs379.nil, hs379.cap⟩ ⟨(hS.rd 3 rfl), hs380.nil, hs380.cap⟩ ⟨(hS.rd 2 rfl), hs428.nil, hs428.cap⟩ ⟨(hS.rd 1 rfl), hs429.nil, hs429.cap⟩ ⟨(hS.rd 0 rfl), hs430.nil, hs430.cap⟩ (Nat.le_trans (spX_len hu hv) (by decide)) (Nat.le_trans (spY_len hu hv) (by decide)) (Nat.le_trans (spD_len hu hv) (by decide)) (Nat.le_trans (spX_len hx hy) (by decide)) (Nat.le_trans (spY_len hx hy) (by decide)) (Nat.le_trans (spD_len hx hy) (by decide)) (spD_ne u v) hx2 hT hR hD) ?_)
        rintro _ w446 ⟨zo433, zc434, uo435, uc436, zo437, zc438, uo439, uc440, rfl, hs441, hs442, hs443, hs444, hb445⟩
        replace hS := hS.call hb445
        replace hS := hS.addR hs441.rd
        replace hS := hS.addR hs442.rd
        replace hS := hS.addR hs443.rd
        replace hS := hS.addR hs444.rd
        refine ⟨_, rfl, (hS.partD (.cons _ (.cons _ (.cons_cons _ (.cons_cons _ (.cons_cons _ (.cons_cons _ (.cons_cons _ .slnil))))))) 10 rfl (.refl _)), ?_⟩
        intro a hA
        refine any_take hA 5 rfl rfl rfl rfl (by kernel_rfl) (by kernel_rfl) (by kernel_rfl) (fun c a w h => hP c a _ _ w h) (hS.partD (.cons _ (.cons _ (.cons_cons _ (.cons_cons _ (.cons_cons _ (.cons_cons _ (.cons_cons _ .slnil))))))) 10 rfl (.refl _)) (fun w1 hS => does_move rfl) ?_
        intro a hA
        refine any_take (v := .agg #[.bool ((rb T)), .slice zo433 ((words T.natAbs).length) zc434, .bool false, .slice none 0 0, .slice uo435 ((words 1).length) uc436]) hA 6 rfl rfl rfl rfl (by kernel_rfl) (by kernel_rfl) (by kernel_rfl) (fun c a w h => hP c a _ _ w h) (hS.partD (.cons _ (.cons _ (.cons_cons _ (.cons_cons _ (.cons_cons _ (.cons_cons _ (.cons_cons _ .slnil))))))) 10 rfl (.refl _)) (fun w1 hS => does_extract (vs := [.agg #[.bool ((rb T)), .slice zo433 ((words T.natAbs).length) zc434, .bool false, .slice none 0 0, .slice uo435 ((words 1).length) uc436], .agg #[.bool ((rb ((R : Nat) : Int))), .slice zo437 ((words ((R : Nat) : Int).natAbs).length) zc438, .bool false, .slice none 0 0, .slice uo439 ((words D).length) uc440]]) rfl rfl) ?_
        intro a hA
        refine any_take (v := .agg #[.bool ((rb ((R : Nat) : Int))), .slice zo437 ((words ((R : Nat) : Int).natAbs).length) zc438, .bool false, .slice none 0 0, .slice uo439 ((words D).length) uc440]) hA 7 rfl rfl rfl rfl (by kernel_rfl) (by kernel_rfl) (by kernel_rfl) (fun c a w h => hP c a _ _ w h) (hS.partD (.cons _ (.cons _ (.cons_cons _ (.cons_cons _ (.cons_cons _ (.cons_cons _ (.cons_cons _ .slnil))))))) 10 rfl (.refl _)) (fun w1 hS => does_extract (vs := [.agg #[.bool ((rb T)), .slice zo433 ((words T.natAbs).length) zc434, .bool false, .slice none 0 0, .slice uo435 ((words 1).length) uc436], .agg #[.bool ((rb ((R : Nat) : Int))), .slice zo437 ((words ((R : Nat) : Int).natAbs).length) zc438, .bool false, .slice none 0 0, .slice uo439 ((words D).length) uc440]]) rfl rfl) ?_
        intro a hA
        refine any_one (by kernel_rfl) (op_store (us := [.bool ((rb T)), .slice zo433 ((words T.natAbs).length) zc434, .bool false, .slice none 0 0, .slice uo435 ((words 1).length) uc436]) hA hS 10 rfl rfl rfl (sets_store (cs := [.bool ((rb T)), .slice zo433 ((words T.natAbs).length) zc434, .bool false, .slice none 0 0, .slice uo435 ((words 1).length) uc436]) rfl rfl rfl (by kernel_rfl) hS 1 rfl rfl rfl) 1 rfl rfl rfl rfl ?_)
        intro w447 hS
        refine ⟨(hS.partD (.cons _ (.cons _ (.cons_cons _ (.cons_cons _ (.cons_cons _ (.cons_cons _ (.cons_cons _ .slnil))))))) 10 rfl (.refl _)), ?_⟩
        refine any_one (by kernel_rfl) (op_store (us := [.bool ((rb ((R : Nat) : Int))), .slice zo437 ((words ((R : Nat) : Int).natAbs).length) zc438, .bool false, .slice none 0 0, .slice uo439 ((words D).length) uc440]) hA hS 11 rfl rfl rfl (sets_store (cs := [.bool ((rb ((R : Nat) : Int))), .slice zo437 ((words ((R : Nat) : Int).natAbs).length) zc438, .bool false, .slice none 0 0, .slice uo439 ((words D).length) uc440]) rfl rfl rfl (by kernel_rfl) hS 0 rfl rfl rfl) 0 rfl rfl rfl rfl ?_)
        intro w448 hS
        refine ⟨(hS.partD (.cons _ (.cons _ (.cons_cons _ (.cons_cons _ (.cons_cons _ (.cons_cons _ (.cons_cons _ .slnil))))))) 10 rfl (.refl _)), ?_⟩
        refine any_end (by kernel_rfl) ?_
        refine hJ96 _ _ ⟨g375, g425, zo433, zc434, uo435, uc436, zo437, zc438, uo439, uc440, p377_1, p377_c1, p377_2, p377_c2, p377_3, p377_c3, p427_1, p427_c1, p427_2, p427_c2, p427_3, p427_c3, hA.keep _ ⟨rfl, rfl, rfl, rfl, rfl, rfl, rfl, rfl, rfl, rfl, rfl, rfl, rfl, rfl, rfl, rfl, rfl, rfl, rfl, rfl, rfl, rfl, rfl, rfl, rfl, rfl, trivial⟩, ((hS.pickR [(uo439, words D), (zo437, words ((R : Nat) : Int).natAbs), (uo435, words 1), (zo433, words T.natAbs), (p427_3, words (spD x y)), (p427_2, words (spY x y).natAbs), (p427_1, words (spX x y).natAbs), (p377_3, words (spD u v)), (p377_2, words (spY u v).natAbs), (p377_1, words (spX u v).natAbs), (u4, words y.den), (u3, words y.num.natAbs), (u2, words x.den), (u1, words x.num.natAbs), (a4, words v.den), (a3, words v.num.natAbs), (a2, words u.den), (a1, words u.num.natAbs)] ⟨⟨0, rfl⟩, ⟨⟨1, rfl⟩, ⟨⟨2, rfl⟩, ⟨⟨3, rfl⟩, ⟨⟨4, rfl⟩, ⟨⟨5, rfl⟩, ⟨⟨6, rfl⟩, ⟨⟨7, rfl⟩, ⟨⟨8, rfl⟩, ⟨⟨9, rfl⟩, ⟨⟨10, rfl⟩, ⟨⟨11, rfl⟩, ⟨⟨12, rfl⟩, ⟨⟨13, rfl⟩, ⟨⟨14, rfl⟩, ⟨⟨15, rfl⟩, ⟨⟨16, rfl⟩, ⟨⟨17, rfl⟩, trivial⟩⟩⟩⟩⟩⟩⟩⟩⟩⟩⟩⟩⟩⟩⟩⟩⟩⟩).pickL [(g425, [.bool ((rb ((R : Nat) : Int))), .slice zo437 ((words ((R : Nat) : Int).natAbs).length) zc438, .bool false, .slice none 0 0, .slice uo439 ((words D).length) uc440]), (g375, [.bool ((rb T)), .slice zo433 ((words T.natAbs).length) zc434, .bool false, .slice none 0 0, .slice uo435 ((words 1).length) uc436]), (g12, [.bool (rb u.num), .slice a1 ((words u.num.natAbs).length) ac1, .slice a2 ((words u.den).length) ac2, .bool (rb v.num), .slice a3 ((words v.num.natAbs).length) ac3, .slice a4 ((words v.den).length) ac4, .bool (rb x.num), .slice u1 ((words x.num.natAbs).length) uc1, .slice u2 ((words x.den).length) uc2, .bool (rb y.num), .slice u3 ((words y.num.natAbs).length) uc3, .slice u4 ((words y.den).length) uc4]), (g8, [.bool false, .slice none 0 0, .slice none 0 0, .bool false, .slice none 0 0, .slice none 0 0]), (g6, [.bool false, .slice none 0 0, .slice none 0 0, .bool false, .slice none 0 0, .slice none 0 0]), (g4, [.bool (rb x.num), .slice u1 ((words x.num.natAbs).length) uc1, .slice u2 ((words x.den).length) uc2, .bool (rb y.num), .slice u3 ((words y.num.natAbs).length) uc3, .slice u4 ((words y.den).length) uc4]), (g2, [.bool (rb u.num), .slice a1 ((words u.num.natAbs).length) ac1, .slice a2 ((words u.den).length) ac2, .bool (rb v.num), .slice a3 ((words v.num.natAbs).length) ac3, .slice a4 ((words v.den).length) ac4])] [0, 1, 2, 3, 4, 5, 6] rfl (by decide)), hs444.nil, hs444.cap, hs443.nil, hs443.cap, hs442.nil, hs442.cap, hs441.nil, hs441.cap, hs430.nil, hs430.cap, hs429.nil, hs429.cap, hs428.nil, hs428.cap, hs380.nil, hs380.cap, hs379.nil, hs379.cap, hs378.nil, hs378.cap⟩
    · refine op_new (vs := [.bool false, .slice none 0 0, .bool false, .slice none 0 0, .slice none 0 0]) (t := 48) hA hS 9 rfl rfl rfl rfl (fun g => .pointer (some ⟨g, 0, none⟩)) (does_alloc (z := .agg #[.bool false, .slice none 0 0, .bool false, .slice none 0 0, .slice none 0 0]) (by kernel_rfl) rfl) rfl ?_
      intro g449 w450 hS
      refine ⟨(hS.partD (.cons _ (.cons _ (.cons_cons _ (.cons_cons _ (.cons_cons _ (.cons_cons _ (.cons_cons _ .slnil))))))) 0 rfl (.refl _)), ?_⟩
      intro a hA
      refine any_one (by kernel_rfl) (op_call hA 1 rfl rfl rfl rfl (enters_func  rfl rfl (fun w => by kernel_rfl)) (zspread_any (show Nm _ (Q6.rat u v) a1 ac1 a2 ac2 a3 ac3 a4 ac4 from ⟨⟨(hS.rd 7 rfl), ha.s1.nil, ha.s1.cap⟩, ⟨(hS.rd 6 rfl), ha.s2.nil, ha.s2.cap⟩, ⟨(hS.rd 5 rfl), ha.s3.nil, ha.s3.cap⟩, ⟨(hS.rd 4 rfl), ha.s4.nil, ha.s4.cap⟩⟩) hu hv) ?_)
      rintro _ w456 ⟨p451_1, p451_c1, p451_2, p451_c2, p451_3, p451_c3, rfl, hs452, hs453, hs454, hb455⟩
      replace hS := hS.call hb455
      replace hS := hS.addR hs452.rd
      replace hS := hS.addR hs453.rd
      replace hS := hS.addR hs454.rd
      refine ⟨_, rfl, (hS.partD (.cons _ (.cons _ (.cons_cons _ (.cons_cons _ (.cons_cons _ (.cons_cons _ (.cons_cons _ .slnil))))))) 3 rfl (.refl _)), ?_⟩
      intro a hA
      refine any_one (by kernel_rfl) (op_call hA 3 rfl rfl rfl rfl (enters_func  rfl rfl (fun w => by kernel_rfl)) (zspread_any (show Nm _ (Q6.rat x y) u1 uc1 u2 uc2 u3 uc3 u4 uc4 from ⟨⟨(hS.rd 6 rfl), hb.s1.nil, hb.s1.cap⟩, ⟨(hS.rd 5 rfl), hb.s2.nil, hb.s2.cap⟩, ⟨(hS.rd 4 rfl), hb.s3.nil, hb.s3.cap⟩, ⟨(hS.rd 3 rfl), hb.s4.nil, hb.s4.cap⟩⟩) hx hy) ?_)
      rintro _ w462 ⟨p457_1, p457_c1, p457_2, p457_c2, p457_3, p457_c3, rfl, hs458, hs459, hs460, hb461⟩
      replace hS := hS.call hb461
      replace hS := hS.addR hs458.rd
      replace hS := hS.addR hs459.rd
      replace hS := hS.addR hs460.rd
      refine ⟨_, rfl, (hS.partD (.cons _ (.cons _ (.cons_cons _ (.cons_cons _ (.cons_cons _ (.cons_cons _ (.cons_cons _ .slnil))))))) 6 rfl (.refl _)), ?_⟩
      intro a hA
      refine any_one (by kernel_rfl) (op_call hA 4 rfl rfl rfl rfl (enters_func  rfl rfl (fun w => by kernel_rfl)) (zdivmod_as ⟨(hS.rd 5 rfl), hs452.nil, hs452.cap⟩ ⟨(hS.rd 4 rfl), hs453.nil, hs453.cap⟩ ⟨(hS.rd 3 rfl), hs454.nil, hs454.cap⟩ ⟨(hS.rd 2 rfl), hs458.nil, hs458.cap⟩ ⟨(hS.rd 1 rfl), hs459.nil, hs459.cap⟩ ⟨(hS.rd 0 rfl), hs460.nil, hs460.cap⟩ (Nat.le_trans (spX_len hu hv) (by decide)) (Nat.le_trans (spY_len hu hv) (by decide)) (Nat.le_trans (spD_len hu hv) (by decide)) (Nat.le_trans (spX_len hx hy) (by decide)) (Nat.le_trans (spY_len hx hy) (by decide)) (Nat.le_trans (spD_len hx hy) (by decide)) (spD_ne u v) hx2 hT hR hD) ?_)
      rintro _ w476 ⟨zo463, zc464, uo465, uc466, zo467, zc468, uo469, uc470, rfl, hs471, hs472, hs473, hs474, hb475⟩
      replace hS := hS.call hb475
      replace hS := hS.addR hs471.rd
      replace hS := hS.addR hs472.rd
      replace hS := hS.addR hs473.rd
      replace hS := hS.addR hs474.rd
      refine ⟨_, rfl, (hS.partD (.cons _ (.cons _ (.cons_cons _ (.cons_cons _ (.cons_cons _ (.cons_cons _ (.cons_cons _ .slnil))))))) 10 rfl (.refl _)), ?_⟩
      intro a hA
      refine any_take hA 5 rfl rfl rfl rfl (by kernel_rfl) (by kernel_rfl) (by kernel_rfl) (fun c a w h => hP c a _ _ w h) (hS.partD (.cons _ (.cons _ (.cons_cons _ (.cons_cons _ (.cons_cons _ (.cons_cons _ (.cons_cons _ .slnil))))))) 10 rfl (.refl _)) (fun w1 hS => does_move rfl) ?_
      intro a hA
      refine any_take (v := .agg #[.bool ((rb T)), .slice zo463 ((words T.natAbs).length) zc464, .bool false, .slice none 0 0, .slice uo465 ((words 1).length) uc466]) hA 6 rfl rfl rfl rfl (by kernel_rfl) (by kernel_rfl) (by kernel_rfl) (fun c a w h => hP c a _ _ w h) (hS.partD (.cons _ (.cons _ (.cons_cons _ (.cons_cons _ (.cons_cons _ (.cons_cons _ (.cons_cons _ .slnil))))))) 10 rfl (.refl _)) (fun w1 hS => does_extract (vs := [.agg #[.bool ((rb T)), .slice zo463 ((words T.natAbs).length) zc464, .bool false, .slice none 0 0, .slice uo465 ((words 1).length) uc466], .agg #[.bool ((rb ((R : Nat) : Int))), .slice zo467 ((words ((R : Nat) : Int).natAbs).length) zc468, .bool false, .slice none 0 0, .slice uo469 ((words D).length) uc470]]) rfl rfl) ?_
      intro a hA
      refine any_take (v := .agg #[.bool ((rb ((R : Nat) : Int))), .slice zo467 ((words ((R : Nat) : Int).natAbs).length) zc468, .bool false, .slice none 0 0, .slice uo469 ((words D).length) uc470]) hA 7 rfl rfl rfl rfl (by kernel_rfl) (by kernel_rfl) (by kernel_rfl) (fun c a w h => hP c a _ _ w h) (hS.partD (.cons _ (.cons _ (.cons_cons _ (.cons_cons _ (.cons_cons _ (.cons_cons _ (.cons_cons _ .slnil))))))) 10 rfl (.refl _)) (fun w1 hS => does_extract (vs := [.agg #[.bool ((rb T)), .slice zo463 ((words T.natAbs).length) zc464, .bool false, .slice none 0 0, .slice uo465 ((words 1).length) uc466], .agg #[.bool ((rb ((R : Nat) : Int))), .slice zo467 ((words ((R : Nat) : Int).natAbs).length) zc468, .bool false, .slice none 0 0, .slice uo469 ((words D).length) uc470]]) rfl rfl) ?_
      intro a hA
      refine any_one (by kernel_rfl) (op_store (us := [.bool ((rb T)), .slice zo463 ((words T.natAbs).length) zc464, .bool false, .slice none 0 0, .slice uo465 ((words 1).length) uc466]) hA hS 10 rfl rfl rfl (sets_store (cs := [.bool ((rb T)), .slice zo463 ((words T.natAbs).length) zc464, .bool false, .slice none 0 0, .slice uo465 ((words 1).length) uc466]) rfl rfl rfl (by kernel_rfl) hS 1 rfl rfl rfl) 1 rfl rfl rfl rfl ?_)
      intro w477 hS
      refine ⟨(hS.partD (.cons _ (.cons _ (.cons_cons _ (.cons_cons _ (.cons_cons _ (.cons_cons _ (.cons_cons _ .slnil))))))) 10 rfl (.refl _)), ?_⟩
      refine any_one (by kernel_rfl) (op_store (us := [.bool ((rb ((R : Nat) : Int))), .slice zo467 ((words ((R : Nat) : Int).natAbs).length) zc468, .bool false, .slice none 0 0, .slice uo469 ((words D).length) uc470]) hA hS 11 rfl rfl rfl (sets_store (cs := [.bool ((rb ((R : Nat) : Int))), .slice zo467 ((words ((R : Nat) : Int).natAbs).length) zc468, .bool false, .slice none 0 0, .slice uo469 ((words D).length) uc470]) rfl rfl rfl (by kernel_rfl) hS 0 rfl rfl rfl) 0 rfl rfl rfl rfl ?_)
      intro w478 hS
      refine ⟨(hS.partD (.cons _ (.cons _ (.cons_cons _ (.cons_cons _ (.cons_cons _ (.cons_cons _ (.cons_cons _ .slnil))))))) 10 rfl (.refl _)), ?_⟩
      refine any_end (by kernel_rfl) ?_
      refine hJ96 _ _ ⟨g375, g449, zo463, zc464, uo465, uc466, zo467, zc468, uo469, uc470, p451_1, p451_c1, p451_2, p451_c2, p451_3, p451_c3, p457_1, p457_c1, p457_2, p457_c2, p457_3, p457_c3, hA.keep _ ⟨rfl, rfl, rfl, rfl, rfl, rfl, rfl, rfl, rfl, rfl, rfl, rfl, rfl, rfl, rfl, rfl, rfl, rfl, rfl, rfl, rfl, rfl, rfl, rfl, rfl, rfl, trivial⟩, ((hS.pickR [(uo469, words D), (zo467, words ((R : Nat) : Int).natAbs), (uo465, words 1), (zo463, words T.natAbs), (p457_3, words (spD x y)), (p457_2, words (spY x y).natAbs), (p457_1, words (spX x y).natAbs), (p451_3, words (spD u v)), (p451_2, words (spY u v).natAbs), (p451_1, words (spX u v).natAbs), (u4, words y.den), (u3, words y.num.natAbs), (u2, words x.den), (u1, words x.num.natAbs), (a4, words v.den), (a3, words v.num.natAbs), (a2, words u.den), (a1, words u.num.natAbs)] ⟨⟨0, rfl⟩, ⟨⟨1, rfl⟩, ⟨⟨2, rfl⟩, ⟨⟨3, rfl⟩, ⟨⟨4, rfl⟩, ⟨⟨5, rfl⟩, ⟨⟨6, rfl⟩, ⟨⟨7, rfl⟩, ⟨⟨8, rfl⟩, ⟨⟨9, rfl⟩, ⟨⟨10, rfl⟩, ⟨⟨11, rfl⟩, ⟨⟨12, rfl⟩, ⟨⟨13, rfl⟩, ⟨⟨14, rfl⟩, ⟨⟨15, rfl⟩, ⟨⟨16, rfl⟩, ⟨⟨17, rfl⟩, trivial⟩⟩⟩⟩⟩⟩⟩⟩⟩⟩⟩⟩⟩⟩⟩⟩⟩⟩).pickL [(g449, [.bool ((rb ((R : Nat) : Int))), .slice zo467 ((words ((R : Nat) : Int).natAbs).length) zc468, .bool false, .slice none 0 0, .slice uo469 ((words D).length) uc470]), (g375, [.bool ((rb T)), .slice zo463 ((words T.natAbs).length) zc464, .bool false, .slice none 0 0, .slice uo465 ((words 1).length) uc466]), (g12, [.bool (rb u.num), .slice a1 ((words u.num.natAbs).length) ac1, .slice a2 ((words u.den).length) ac2, .bool (rb v.num), .slice a3 ((words v.num.natAbs).length) ac3, .slice a4 ((words v.den).length) ac4, .bool (rb x.num), .slice u1 ((words x.num.natAbs).length) uc1, .slice u2 ((words x.den).length) uc2, .bool (rb y.num), .slice u3 ((words y.num.natAbs).length) uc3, .slice u4 ((words y.den).length) uc4]), (g8, [.bool false, .slice none 0 0, .slice none 0 0, .bool false, .slice none 0 0, .slice none 0 0]), (g6, [.bool false, .slice none 0 0, .slice none 0 0, .bool false, .slice none 0 0, .slice none 0 0]), (g4, [.bool (rb x.num), .slice u1 ((words x.num.natAbs).length) uc1, .slice u2 ((words x.den).length) uc2, .bool (rb y.num), .slice u3 ((words y.num.natAbs).length) uc3, .slice u4 ((words y.den).length) uc4]), (g2, [.bool (rb u.num), .slice a1 ((words u.num.natAbs).length) ac1, .slice a2 ((words u.den).length) ac2, .bool (rb v.num), .slice a3 ((words v.num.natAbs).length) ac3, .slice a4 ((words v.den).length) ac4])] [0, 1, 2, 3, 4, 5, 6] rfl (by decide)), hs474.nil, hs474.cap, hs473.nil, hs473.cap, hs472.nil, hs472.cap, hs471.nil, hs471.cap, hs460.nil, hs460.cap, hs459.nil, hs459.cap, hs458.nil, hs458.cap, hs454.nil, hs454.cap, hs453.nil, hs453.cap, hs452.nil, hs452.cap⟩
  · refine op_new (vs := [.bool false, .slice none 0 0, .bool false, .slice none 0 0, .slice none 0 0]) (t := 48) hA hS 9 rfl rfl rfl rfl (fun g => .pointer (some ⟨g, 0, none⟩)) (does_alloc (z := .agg #[.bool false, .slice none 0 0, .bool false, .slice none 0 0, .slice none 0 0]) (by kernel_rfl) rfl) rfl ?_
    intro g479 w480 hS
    refine ⟨(hS.partD (.cons _ (.cons_cons _ (.cons_cons _ (.cons_cons _ (.cons_cons _ (.cons_cons _ .slnil)))))) 0 rfl (.refl _)), ?_⟩
    intro a hA
    refine any_many (rs := [1, 8]) (by kernel_rfl) (by simp) ⟨?_, ?_, trivial⟩
    · refine op_call hA 1 rfl rfl rfl rfl (enters_func  rfl rfl (fun w => by kernel_rfl)) (zspread_any (show Nm _ (Q6.rat u v) a1 ac1 a2 ac2 a3 ac3 a4 ac4 from ⟨⟨(hS.rd 7 rfl), ha.s1.nil, ha.s1.cap⟩, ⟨(hS.rd 6 rfl), ha.s2.nil, ha.s2.cap⟩, ⟨(hS.rd 5 rfl), ha.s3.nil, ha.s3.cap⟩, ⟨(hS.rd 4 rfl), ha.s4.nil, ha.s4.cap⟩⟩) hu hv) ?_
      rintro _ w486 ⟨p481_1, p481_c1, p481_2, p481_c2, p481_3, p481_c3, rfl, hs482, hs483, hs484, hb485⟩
      replace hS := hS.call hb485
      replace hS := hS.addR hs482.rd
      replace hS := hS.addR hs483.rd
      replace hS := hS.addR hs484.rd
      refine ⟨_, rfl, (hS.partD (.cons _ (.cons_cons _ (.cons_cons _ (.cons_cons _ (.cons_cons _ (.cons_cons _ .slnil)))))) 3 rfl (.refl _)), ?_⟩
      intro a hA
      refine any_many (rs := [3, 8]) (by kernel_rfl) (by simp) ⟨?_, ?_, trivial⟩
      · refine op_call hA 3 rfl rfl rfl rfl (enters_func  rfl rfl (fun w => by kernel_rfl)) (zspread_any (show Nm _ (Q6.rat x y) u1 uc1 u2 uc2 u3 uc3 u4 uc4 from ⟨⟨(hS.rd 6 rfl), hb.s1.nil, hb.s1.cap⟩, ⟨(hS.rd 5 rfl), hb.s2.nil, hb.s2.cap⟩, ⟨(hS.rd 4 rfl), hb.s3.nil, hb.s3.cap⟩, ⟨(hS.rd 3 rfl), hb.s4.nil, hb.s4.cap⟩⟩) hx hy) ?_
        rintro _ w492 ⟨p487_1, p487_c1, p487_2, p487_c2, p487_3, p487_c3, rfl, hs488, hs489, hs490, hb491⟩
        replace hS := hS.call hb491
        replace hS := hS.addR hs488.rd
        replace hS := hS.addR hs489.rd
        replace hS := hS.addR hs490.rd
        refine ⟨_, rfl, (hS.partD (.cons _ (.cons_cons _ (.cons_cons _ (.cons_cons _ (.cons_cons _ (.cons_cons _ .slnil)))))) 6 rfl (.refl _)), ?_⟩
        intro a hA
        refine any_many (rs := [4, 8]) (by kernel_rfl) (by simp) ⟨?_, ?_, trivial⟩
        · refine op_call hA 4 rfl rfl rfl rfl (enters_func  rfl rfl (fun w => by kernel_rfl)) (zdivmod_as ⟨(hS.rd 5 rfl), hs482.nil, hs482.cap⟩ ⟨(hS.rd 4 rfl), hs483.nil, hs483.cap⟩ ⟨(hS.rd 3 rfl), hs484.nil, hs484.cap⟩ ⟨(hS.rd 2 rfl), hs488.nil, hs488.cap⟩ ⟨(hS.rd 1 rfl), hs489.nil, hs489.cap⟩ ⟨(hS.rd 0 rfl), hs490.nil, hs490.cap⟩ (Nat.le_trans (spX_len hu hv) (by decide)) (Nat.le_trans (spY_len hu hv) (by decide)) (Nat.le_trans (spD_len hu hv) (by decide)) (Nat.le_trans (spX_len hx hy) (by decide)) (Nat.le_trans (spY_len hx hy) (by decide)) (Nat.le_trans (spD_len hx hy) (by decide)) (spD_ne u v) hx2 hT hR hD) ?_
          rintro _ w506 ⟨zo493, zc494, uo495, uc496, zo497, zc498, uo499, uc500, rfl, hs501, hs502, hs503, hs504, hb505⟩
          replace hS := hS.call hb505
          replace hS := hS.addR hs501.rd
          replace hS := hS.addR hs502.rd
          replace hS := hS.addR hs503.rd
          replace hS := hS.addR hs504.rd
          refine ⟨_, rfl, (hS.partD (.cons _ (.cons_cons _ (.cons_cons _ (.cons_cons _ (.cons_cons _ (.cons_cons _ .slnil)))))) 10 rfl (.refl _)), ?_⟩
          intro a hA
          refine any_take hA 5 rfl rfl rfl rfl (by kernel_rfl) (by kernel_rfl) (by kernel_rfl) (fun c a w h => hP c a _ _ w h) (hS.partD (.cons _ (.cons_cons _ (.cons_cons _ (.cons_cons _ (.cons_cons _ (.cons_cons _ .slnil)))))) 10 rfl (.refl _)) (fun w1 hS => does_move rfl) ?_
          intro a hA
          refine any_take (v := .agg #[.bool ((rb T)), .slice zo493 ((words T.natAbs).length) zc494, .bool false, .slice none 0 0, .slice uo495 ((words 1).length) uc496]) hA 6 rfl rfl rfl rfl (by kernel_rfl) (by kernel_rfl) (by kernel_rfl) (fun c a w h => hP c a _ _ w h) (hS.partD (.cons _ (.cons_cons _ (.cons_cons _ (.cons_cons _ (.cons_cons _ (.cons_cons _ .slnil)))))) 10 rfl (.refl _)) (fun w1 hS => does_extract (vs := [.agg #[.bool ((rb T)), .slice zo493 ((words T.natAbs).length) zc494, .bool false, .slice none 0 0, .slice uo495 ((words 1).length) uc496], .agg #[.bool ((rb ((R : Nat) : Int))), .slice zo497 ((words ((R : Nat) : Int).natAbs).length) zc498, .bool false, .slice none 0 0, .slice uo499 ((words D).length) uc500]]) rfl rfl) ?_
          intro a hA
          refine any_take (v := .agg #[.bool ((rb ((R : Nat) : Int))), .slice zo497 ((words ((R : Nat) : Int).natAbs).length) zc498, .bool false, .slice none 0 0, .slice uo499 ((words D).length) uc500]) hA 7 rfl rfl rfl rfl (by kernel_rfl) (by kernel_rfl) (by kernel_rfl) (fun c a w h => hP c a _ _ w h) (hS.partD (.cons _ (.cons_cons _ (.cons_cons _ (.cons_cons _ (.cons_cons _ (.cons_cons _ .slnil)))))) 10 rfl (.refl _)) (fun w1 hS => does_extract (vs := [.agg #[.bool ((rb T)), .slice zo493 ((words T.natAbs).length) zc494, .bool false, .slice none 0 0, .slice uo495 ((words 1).length) uc496], .agg #[.bool ((rb ((R : Nat) : Int))), .slice zo497 ((words ((R : Nat) : Int).natAbs).length) zc498, .bool false, .slice none 0 0, .slice uo499 ((words D).length) uc500]]) rfl rfl) ?_
          intro a hA
          refine any_one (by kernel_rfl) (op_new (vs := [.bool false, .slice none 0 0, .bool false, .slice none 0 0, .slice none 0 0]) (t := 48) hA hS 8 rfl rfl rfl rfl (fun g => .pointer (some ⟨g, 0, none⟩)) (does_alloc (z := .agg #[.bool false, .slice none 0 0, .bool false, .slice none 0 0, .slice none 0 0]) (by kernel_rfl) rfl) rfl ?_)
          intro g507 w508 hS
          refine ⟨(hS.partD (.cons _ (.cons _ (.cons_cons _ (.cons_cons _ (.cons_cons _ (.cons_cons _ (.cons_cons _ .slnil))))))) 10 rfl (.refl _)), ?_⟩
          intro a hA
          refine any_one (by kernel_rfl) (op_store (us := [.bool ((rb T)), .slice zo493 ((words T.natAbs).length) zc494, .bool false, .slice none 0 0, .slice uo495 ((words 1).length) uc496]) hA hS 10 rfl rfl rfl (sets_store (cs := [.bool ((rb T)), .slice zo493 ((words T.natAbs).length) zc494, .bool false, .slice none 0 0, .slice uo495 ((words 1).length) uc496]) rfl rfl rfl (by kernel_rfl) hS 0 rfl rfl rfl) 0 rfl rfl rfl rfl ?_)
          intro w509 hS
          refine ⟨(hS.partD (.cons _ (.cons _ (.cons_cons _ (.cons_cons _ (.cons_cons _ (.cons_cons _ (.cons_cons _ .slnil))))))) 10 rfl (.refl _)), ?_⟩
          refine any_one (by kernel_rfl) (op_store (us := [.bool ((rb ((R : Nat) : Int))), .slice zo497 ((words ((R : Nat) : Int).natAbs).length) zc498, .bool false, .slice none 0 0, .slice uo499 ((words D).length) uc500]) hA hS 11 rfl rfl rfl (sets_store (cs := [.bool ((rb ((R : Nat) : Int))), .slice zo497 ((words ((R : Nat) : Int).natAbs).length) zc498, .bool false, .slice none 0 0, .slice uo499 ((words D).length) uc500]) rfl rfl rfl (by kernel_rfl) hS 1 rfl rfl rfl) 1 rfl rfl rfl rfl ?_)
          intro w510 hS
          refine ⟨(hS.partD (.cons _ (.cons _ (.cons_cons _ (.cons_cons _ (.cons_cons _ (.cons_cons _ (.cons_cons _ .slnil))))))) 10 rfl (.refl _)), ?_⟩
          refine any_end (by kernel_rfl) ?_
          refine hJ96 _ _ ⟨g507, g479, zo493, zc494, uo495, uc496, zo497, zc498, uo499, uc500, p481_1, p481_c1, p481_2, p481_c2, p481_3, p481_c3, p487_1, p487_c1, p487_2, p487_c2, p487_3, p487_c3, hA.keep _ ⟨rfl, rfl, rfl, rfl, rfl, rfl, rfl, rfl, rfl, rfl, rfl, rfl, rfl, rfl, rfl, rfl, rfl, rfl, rfl, rfl, rfl, rfl, rfl, rfl, rfl, rfl, trivial⟩, ((hS.pickR [(uo499, words D), (zo497, words ((R : Nat) : Int).natAbs), (uo495, words 1), (zo493, words T.natAbs), (p487_3, words (spD x y)), (p487_2, words (spY x y).natAbs), (p487_1, words (spX x y).natAbs), (p481_3, words (spD u v)), (p481_2, words (spY u v).natAbs), (p481_1, words (spX u v).natAbs), (u4, words y.den), (u3, words y.num.natAbs), (u2, words x.den), (u1, words x.num.natAbs), (a4, words v.den), (a3, words v.num.natAbs), (a2, words u.den), (a1, words u.num.natAbs)] ⟨⟨0, rfl⟩, ⟨⟨1, rfl⟩, ⟨⟨2, rfl⟩, ⟨⟨3, rfl⟩, ⟨⟨4, rfl⟩, ⟨⟨5, rfl⟩, ⟨⟨6, rfl⟩, ⟨⟨7, rfl⟩, ⟨⟨8, rfl⟩, ⟨⟨9, rfl⟩, ⟨⟨10, rfl⟩, ⟨⟨11, rfl⟩, ⟨⟨12, rfl⟩, ⟨⟨13, rfl⟩, ⟨⟨14, rfl⟩, ⟨⟨15, rfl⟩, ⟨⟨16, rfl⟩, ⟨⟨17, rfl⟩, trivial⟩⟩⟩⟩⟩⟩⟩⟩⟩⟩⟩⟩⟩⟩⟩⟩⟩⟩).pickL [(g479, [.bool ((rb ((R : Nat) : Int))), .slice zo497 ((words ((R : Nat) : Int).natAbs).length) zc498, .bool false, .slice none 0 0, .slice uo499 ((words D).length) uc500]), (g507, [.bool ((rb T)), .slice zo493 ((words T.natAbs).length) zc494, .bool false, .slice none 0 0, .slice uo495 ((words 1).length) uc496]), (g12, [.bool (rb u.num), .slice a1 ((words u.num.natAbs).length) ac1, .slice a2 ((words u.den).length) ac2, .bool (rb v.num), .slice a3 ((words v.num.natAbs).length) ac3, .slice a4 ((words v.den).length) ac4, .bool (rb x.num), .slice u1 ((words x.num.natAbs).length) uc1, .slice u2 ((words x.den).length) uc2, .bool (rb y.num), .slice u3 ((words y.num.natAbs).length) uc3, .slice u4 ((words y.den).length) uc4]), (g8, [.bool false, .slice none 0 0, .slice none 0 0, .bool false, .slice none 0 0, .slice none 0 0]), (g6, [.bool false, .slice none 0 0, .slice none 0 0, .bool false, .slice none 0 0, .slice none 0 0]), (g4, [.bool (rb x.num), .slice u1 ((words x.num.natAbs).length) uc1, .slice u2 ((words x.den).length) uc2, .bool (rb y.num), .slice u3 ((words y.num.natAbs).length) uc3, .slice u4 ((words y.den).length) uc4]), (g2, [.bool (rb u.num), .slice a1 ((words u.num.natAbs).length) ac1, .slice a2 ((words u.den).length) ac2, .bool (rb v.num), .slice a3 ((words v.num.natAbs).length) ac3, .slice a4 ((words v.den).length) ac4])] [1, 0, 2, 3, 4, 5, 6] rfl (by decide)), hs504.nil, hs504.cap, hs503.nil, hs503.cap, hs502.nil, hs502.cap, hs501.nil, hs501.cap, hs490.nil, hs490.cap, hs489.nil, hs489.cap, hs488.nil, hs488.cap, hs484.nil, hs484.cap, hs483.nil, hs483.cap, hs482.nil, hs482.cap⟩
        · refine op_new (vs := [.bool false, .slice none 0 0, .bool false, .slice none 0 0, .slice none 0 0]) (t := 48) hA hS 8 rfl rfl rfl rfl (fun g => .pointer (some ⟨g, 0, none⟩)) (does_alloc (z := .agg #[.bool false, .slice none 0 0, .bool false, .slice none 0 0, .slice none 0 0]) (by kernel_rfl) rfl) rfl ?_
          intro g511 w512 hS
          refine ⟨(hS.partD (.cons _ (.cons _ (.cons_cons _ (.cons_cons _ (.cons_cons _ (.cons_cons _ (.cons_cons _ .slnil))))))) 6 rfl (.refl _)), ?_⟩
          intro a hA
          refine any_one (by kernel_rfl) (op_call hA 4 rfl rfl rfl rfl (enters_func  rfl rfl (fun w => by kernel_rfl)) (zdivmod_as ⟨(hS.rd 5 rfl), hs482.nil, hs482.cap⟩ ⟨(hS.rd 4 rfl), hs483.nil, hs483.cap⟩ ⟨(hS.rd 3 rfl), hs484.nil, hs484.cap⟩ ⟨(hS.rd 2 rfl), hs488.nil, hs488.cap⟩ ⟨(hS.rd 1 rfl), hs489.nil, hs489.cap⟩ ⟨(hS.rd 0 rfl), hs490.nil, hs490.cap⟩ (Nat.le_trans (spX_len hu hv) (by decide)) (Nat.le_trans (spY_len hu hv) (by decide)) (Nat.le_trans (spD_len hu hv) (by decide)) (Nat.le_trans (spX_len hx hy) (by decide)) (Nat.le_trans (spY_len hx hy) (by decide)) (Nat.le_trans (spD_len hx hy) (by decide)) (spD_ne u v) hx2 hT hR hD) ?_)
          rintro _ w526 ⟨zo513, zc514, uo515, uc516, zo517, zc518, uo519, uc520, rfl, hs521, hs522, hs523, hs524, hb525⟩
          replace hS := hS.call hb525
          replace hS := hS.addR hs521.rd
          replace hS := hS.addR hs522.rd
          replace hS := hS.addR hs523.rd
          replace hS := hS.addR hs524.rd
          refine ⟨_, rfl, (hS.partD (.cons _ (.cons _ (.cons_cons _ (.cons_cons _ (.cons_cons _ (.cons_cons _ (.cons_cons _ .slnil))))))) 10 rfl (.refl _)), ?_⟩
          intro a hA
          refine any_take hA 5 rfl rfl rfl rfl (by kernel_rfl) (by kernel_rfl) (by kernel_rfl) (fun c a w h => hP c a _ _ w h) (hS.partD (.cons _ (.cons _ (.cons_cons _ (.cons_cons _ (.cons_cons _ (.cons_cons _ (.cons_cons _ .slnil))))))) 10 rfl (.refl _)) (fun w1 hS => does_move rfl) ?_
          intro a hA
          refine any_take (v := .agg #[.bool ((rb T)), .slice zo513 ((words T.natAbs).length) zc514, .bool false, .slice none 0 0, .slice uo515 ((words 1).length) uc516]) hA 6 rfl rfl rfl rfl (by kernel_rfl) (by kernel_rfl) (by kernel_rfl) (fun c a w h => hP c a _ _ w h) (hS.partD (.cons _ (.cons _ (.cons_cons _ (.cons_cons _ (.cons_cons _ (.cons_cons _ (.cons_cons _ .slnil))))))) 10 rfl (.refl _)) (fun w1 hS => does_extract (vs := [.agg #[.bool ((rb T)), .slice zo513 ((words T.natAbs).length) zc514, .bool false, .slice none 0 0, .slice uo515 ((words 1).length) uc516], .agg #[.bool ((rb ((R : Nat) : Int))), .slice zo517 ((words ((R : Nat) : Int).natAbs).length) zc518, .bool false, .slice none 0 0, .slice uo519 ((words D).length) uc520]]) rfl rfl) ?_
          intro a hA
          refine any_take (v := .agg #[.bool ((rb ((R : Nat) : Int))), .slice zo517 ((words ((R : Nat) : Int).natAbs).length) zc518, .bool false, .slice none 0 0, .slice uo519 ((words D).length) uc520]) hA 7 rfl rfl rfl rfl (by kernel_rfl) (by kernel_rfl) (by kernel_rfl) (fun c a w h => hP c a _ _ w h) (hS.partD (.cons _ (.cons _ (.cons_cons _ (.cons_cons _ (.cons_cons _ (.cons_cons _ (.cons_cons _ .slnil))))))) 10 rfl (.refl _)) (fun w1 hS => does_extract (vs := [.agg #[.bool ((rb T)), .slice zo513 ((words T.natAbs).length) zc514, .bool false, .slice none 0 0, .slice uo515 ((words 1).length) uc516], .agg #[.bool ((rb ((R : Nat) : Int))), .slice zo517 ((words ((R : Nat) : Int).natAbs).length) zc518, .bool false, .slice none 0 0, .slice uo519 ((words D).length) uc520]]) rfl rfl) ?_
          intro a hA
          refine any_one (by kernel_rfl) (op_store (us := [.bool ((rb T)), .slice zo513 ((words T.natAbs).length) zc514, .bool false, .slice none 0 0, .slice uo515 ((words 1).length) uc516]) hA hS 10 rfl rfl rfl (sets_store (cs := [.bool ((rb T)), .slice zo513 ((words T.natAbs).length) zc514, .bool false, .slice none 0 0, .slice uo515 ((words 1).length) uc516]) rfl rfl rfl (by kernel_rfl) hS 0 rfl rfl rfl) 0 rfl rfl rfl rfl ?_)
          intro w527 hS
          refine ⟨(hS.partD (.cons _ (.cons _ (.cons_cons _ (.cons_cons _ (.cons_cons _ (.cons_cons _ (.cons_cons _ .slnil))))))) 10 rfl (.refl _)), ?_⟩
          refine any_one (by kernel_rfl) (op_store (us := [.bool ((rb ((R : Nat) : Int))), .slice zo517 ((words ((R : Nat) : Int).natAbs).length) zc518, .bool false, .slice none 0 0, .slice uo519 ((words D).length) uc520]) hA hS 11 rfl rfl rfl (sets_store (cs := [.bool ((rb ((R : Nat) : Int))), .slice zo517 ((words ((R : Nat) : Int).natAbs).length) zc518, .bool false, .slice none 0 0, .slice uo519 ((words D).length) uc520]) rfl rfl rfl (by kernel_rfl) hS 1 rfl rfl rfl) 1 rfl rfl rfl rfl ?_)
          intro w528 hS
          refine ⟨(hS.partD (.cons _ (.cons _ (.cons_cons _ (.cons_cons _ (.cons_cons _ (.cons_cons _ (.cons_cons _ .slnil))))))) 10 rfl (.refl _)), ?_⟩
          refine any_end (by kernel_rfl) ?_
          refine hJ96 _ _ ⟨g511, g479, zo513, zc514, uo515, uc516, zo517, zc518, uo519, uc520, p481_1, p481_c1, p481_2, p481_c2, p481_3, p481_c3, p487_1, p487_c1, p487_2, p487_c2, p487_3, p487_c3, hA.keep _ ⟨rfl, rfl, rfl, rfl, rfl, rfl, rfl, rfl, rfl, rfl, rfl, rfl, rfl, rfl, rfl, rfl, rfl, rfl, rfl, rfl, rfl, rfl, rfl, rfl, rfl, rfl, trivial⟩, ((hS.pickR [(uo519, words D), (zo517, words ((R : Nat) : Int).natAbs), (uo515, words 1), (zo513, words T.natAbs), (p487_3, words (spD x y)), (p487_2, words (spY x y).natAbs), (p487_1, words (spX x y).natAbs), (p481_3, words (spD u v)), (p481_2, words (spY u v).natAbs), (p481_1, words (spX u v).natAbs), (u4, words y.den), (u3, words y.num.natAbs), (u2, words x.den), (u1, words x.num.natAbs), (a4, words v.den), (a3, words v.num.natAbs), (a2, words u.den), (a1, words u.num.natAbs)] ⟨⟨0, rfl⟩, ⟨⟨1, rfl⟩, ⟨⟨2, rfl⟩, ⟨⟨3, rfl⟩, ⟨⟨4, rfl⟩, ⟨⟨5, rfl⟩, ⟨⟨6, rfl⟩, ⟨⟨7, rfl⟩, ⟨⟨8, rfl⟩, ⟨⟨9, rfl⟩, ⟨⟨10, rfl⟩, ⟨⟨11, rfl⟩, ⟨⟨12, rfl⟩, ⟨⟨13, rfl⟩, ⟨⟨14, rfl⟩, ⟨⟨15, rfl⟩, ⟨⟨16, rfl⟩, ⟨⟨17, rfl⟩, trivial⟩⟩⟩⟩⟩⟩⟩⟩⟩⟩⟩⟩⟩⟩⟩⟩⟩⟩).pickL [(g479, [.bool ((rb ((R : Nat) : Int))), .slice zo517 ((words ((R : Nat) : Int).natAbs).length) zc518, .bool false, .slice none 0 0, .slice uo519 ((words D).length) uc520]), (g511, [.bool ((rb T)), .slice zo513 ((words T.natAbs).length) zc514, .bool false, .slice none 0 0, .slice uo515 ((words 1).length) uc516]), (g12, [.bool (rb u.num), .slice a1 ((words u.num.natAbs).length) ac1, .slice a2 ((words u.den).length) ac2, .bool (rb v.num), .slice a3 ((words v.num.natAbs).length) ac3, .slice a4 ((words v.den).length) ac4, .bool (rb x.num), .slice u1 ((words x.num.natAbs).length) uc1, .slice u2 ((words x.den).length) uc2, .bool (rb y.num), .slice u3 ((words y.num.natAbs).length) uc3, .slice u4 ((words y.den).length) uc4]), (g8, [.bool false, .slice none 0 0, .slice none 0 0, .bool false, .slice none 0 0, .slice none 0 0]), (g6, [.bool false, .slice none 0 0, .slice none 0 0, .bool false, .slice none 0 0, .slice none 0 0]), (g4, [.bool (rb x.num), .slice u1 ((words x.num.natAbs).length) uc1, .slice u2 ((words x.den).length) uc2, .bool (rb y.num), .slice u3 ((words y.num.natAbs).length) uc3, .slice u4 ((words y.den).length) uc4]), (g2, [.bool (rb u.num), .slice a1 ((words u.num.natAbs).length) ac1, .slice a2 ((words u.den).length) ac2, .bool (rb v.num), .slice a3 ((words v.num.natAbs).length) ac3, .slice a4 ((words v.den).length) ac4])] [1, 0, 2, 3, 4, 5, 6] rfl (by decide)), hs524.nil, hs524.cap, hs523.nil, hs523.cap, hs522.nil, hs522.cap, hs521.nil, hs521.cap, hs490.nil, hs490.cap, hs489.nil, hs489.cap, hs488.nil, hs488.cap, hs484.nil, hs484.cap, hs483.nil, hs483.cap, hs482.nil, hs482.cap⟩
      · refine op_new (vs := [.bool false, .slice none 0 0, .bool false, .slice none 0 0, .slice none 0 0]) (t := 48) hA hS 8 rfl rfl rfl rfl (fun g => .pointer (some ⟨g, 0, none⟩)) (does_alloc (z := .agg #[.bool false, .slice none 0 0, .bool false, .slice none 0 0, .slice none 0 0]) (by kernel_rfl) rfl) rfl ?_
        intro g529 w530 hS
        refine ⟨(hS.partD (.cons _ (.cons _ (.cons_cons _ (.cons_cons _ (.cons_cons _ (.cons_cons _ (.cons_cons _ .slnil))))))) 3 rfl (.refl _)), ?_⟩
        intro a hA
        refine any_one (by kernel_rfl) (op_call hA 3 rfl rfl rfl rfl (enters_func  rfl rfl (fun w => by kernel_rfl)) (zspread_any (show Nm _ (Q6.rat x y) u1 uc1 u2 uc2 u3 uc3 u4 uc4 from ⟨⟨(hS.rd 6 rfl), hb.s1.nil, hb.s1.cap⟩, ⟨(hS.rd 5 rfl), hb.s2.nil, hb.s2.cap⟩, ⟨(hS.rd 4 rfl), hb.s3.nil, hb.s3.cap⟩, ⟨(hS.rd 3 rfl), hb.s4.nil, hb.s4.cap⟩⟩) hx hy) ?_)
        rintro _ w536 ⟨p531_1, p531_c1, p531_2, p531_c2, p531_3, p531_c3, rfl, hs532, hs533, hs534, hb535⟩
        replace hS := hS.call hb535
        replace hS := hS.addR hs532.rd
        replace hS := hS.addR hs533.rd
        replace hS := hS.addR hs534.rd
        refine ⟨_, rfl, (hS.partD (.cons _ (.cons _ (.cons_cons _ (.cons_cons _ (.cons_cons _ (.cons_cons _ (.cons_cons _ .slnil))))))) 6 rfl (.refl _)), ?_⟩
        intro a hA
        refine any_one (by kernel_rfl) (op_call hA 4 rfl rfl rfl rfl (enters_func  rfl rfl (fun w => by kernel_rfl)) (zdivmod_as ⟨(hS.rd 5 rfl), hs482.nil, hs482.cap⟩ ⟨(hS.rd 4 rfl), hs483.nil, hs483.cap⟩ ⟨(hS.rd 3 rfl), hs484.nil, hs484.cap⟩ ⟨(hS.rd 2 rfl), hs532.nil, hs532.cap⟩ ⟨(hS.rd 1 rfl), hs533.nil, hs533.cap⟩ ⟨(hS.rd 0 rfl), hs534.nil, hs534.cap⟩ (Nat.le_trans (spX_len hu hv) (by decide)) (Nat.le_trans (spY_len hu hv) (by decide)) (Nat.le_trans (spD_len hu hv) (by decide)) (Nat.le_trans (spX_len hx hy) (by decide)) (Nat.le_trans (spY_len hx hy) (by decide)) (Nat.le_trans (spD_len hx hy) (by decide)) (spD_ne u v) hx2 hT hR hD) ?_)
        rintro _ w550 ⟨zo537, zc538, uo539, uc540, zo541, zc542, uo543, uc544, rfl, hs545, hs546, hs547, hs548, hb549⟩
        replace hS := hS.call hb549
        replace hS := hS.addR hs545.rd
        replace hS := hS.addR hs546.rd
        replace hS := hS.addR hs547.rd
        replace hS := hS.addR hs548.rd
        refine ⟨_, rfl, (hS.partD (.cons _ (.cons _ (.cons_cons _ (.cons_cons _ (.cons_cons _ (.cons_cons _ (.cons_cons _ .slnil))))))) 10 rfl (.refl _)), ?_⟩
        intro a hA
        refine any_take hA 5 rfl rfl rfl rfl (by kernel_rfl) (by kernel_rfl) (by kernel_rfl) (fun c a w h => hP c a _ _ w h) (hS.partD (.cons _ (.cons _ (.cons_cons _ (.cons_cons _ (.cons_cons _ (.cons_cons _ (.cons_cons _ .slnil))))))) 10 rfl (.refl _)) (fun w1 hS => does_move rfl) ?_
        intro a hA
        refine any_take (v := .agg #[.bool ((rb T)), .slice zo537 ((words T.natAbs).length) zc538, .bool false, .slice none 0 0, .slice uo539 ((words 1).length) uc540]) hA 6 rfl rfl rfl rfl (by kernel_rfl) (by kernel_rfl) (by kernel_rfl) (fun c a w h => hP c a _ _ w h) (hS.partD (.cons _ (.cons _ (.cons_cons _ (.cons_cons _ (.cons_cons _ (.cons_cons _ (.cons_cons _ .slnil))))))) 10 rfl (.refl _)) (fun w1 hS => does_extract (vs := [.agg #[.bool ((rb T)), .slice zo537 ((words T.natAbs).length) zc538, .bool false, .slice none 0 0, .slice uo539 ((words 1).length) uc540], .agg #[.bool ((rb ((R : Nat) : Int))), .slice zo541 ((words ((R : Nat) : Int).natAbs).length) zc542, .bool false, .slice none 0 0, .slice uo543 ((words D).length) uc544]]) rfl rfl) ?_
        intro a hA
        refine any_take (v := .agg #[.bool ((rb ((R : Nat) : Int))), .slice zo541 ((words ((R : Nat) : Int).natAbs).length) zc542, .bool false, .slice none 0 0, .slice uo543 ((words D).length) uc544]) hA 7 rfl rfl rfl rfl (by kernel_rfl) (by kernel_rfl) (by kernel_rfl) (fun c a w h => hP c a _ _ w h) (hS.partD (.cons _ (.cons _ (.cons_cons _ (.cons_cons _ (.cons_cons _ (.cons_cons _ (.cons_cons _ .slnil))))))) 10 rfl (.refl _)) (fun w1 hS => does_extract (vs := [.agg #[.bool ((rb T)), .slice zo537 ((words T.natAbs).length) zc538, .bool false, .slice none 0 0, .slice uo539 ((words 1).length) uc540], .agg #[.bool ((rb ((R : Nat) : Int))), .slice zo541 ((words ((R : Nat) : Int).natAbs).length) zc542, .bool false, .slice none 0 0, .slice uo543 ((words D).length) uc544]]) rfl rfl) ?_
        intro a hA
        refine any_one (by kernel_rfl) (op_store (us := [.bool ((rb T)), .slice zo537 ((words T.natAbs).length) zc538, .bool false, .slice none 0 0, .slice uo539 ((words 1).length) uc540]) hA hS 10 rfl rfl rfl (sets_store (cs := [.bool ((rb T)), .slice zo537 ((words T.natAbs).length) zc538, .bool false, .slice none 0 0, .slice uo539 ((words 1).length) uc540]) rfl rfl rfl (by kernel_rfl) hS 0 rfl rfl rfl) 0 rfl rfl rfl rfl ?_)
        intro w551 hS
        refine ⟨(hS.partD (.cons _ (.cons _ (.cons_cons _ (.cons_cons _ (.cons_cons _ (.cons_cons _ (.cons_cons _ .slnil))))))) 10 rfl (.refl _)), ?_⟩
        refine any_one (by kernel_rfl) (op_store (us := [.bool ((rb ((R : Nat) : Int))), .slice zo541 ((words ((R : Nat) : Int).natAbs).length) zc542, .bool false, .slice none 0 0, .slice uo543 ((words D).length) uc544]) hA hS 11 rfl rfl rfl (sets_store (cs := [.bool ((rb ((R : Nat) : Int))), .slice zo541 ((words ((R : Nat) : Int).natAbs).length) zc542, .bool false, .slice none 0 0, .slice uo543 ((words D).length) uc544]) rfl rfl rfl (by kernel_rfl) hS 1 rfl rfl rfl) 1 rfl rfl rfl rfl ?_)
        intro w552 hS
        refine ⟨(hS.partD (.cons _ (.cons _ (.cons_cons _ (.cons_cons _ (.cons_cons _ (.cons_cons _ (.cons_cons _ .slnil))))))) 10 rfl (.refl _)), ?_⟩
        refine any_end (by kernel_rfl) ?_
        refine hJ96 _ _ ⟨g529, g479, zo537, zc538, uo539, uc540, zo541, zc542, uo543, uc544, p481_1, p481_c1, p481_2, p481_c2, p481_3, p481_c3, p531_1, p531_c1, p531_2, p531_c2, p531_3, p531_c3, hA.keep _ ⟨rfl, rfl, rfl, rfl, rfl, rfl, rfl, rfl, rfl, rfl, rfl, rfl, rfl, rfl, rfl, rfl, rfl, rfl, rfl, rfl, rfl, rfl, rfl, rfl, rfl, rfl, trivial⟩, ((hS.pickR [(uo543, words D), (zo541, words ((R : Nat) : Int).natAbs), (uo539, words 1), (zo537, words T.natAbs), (p531_3, words (spD x y)), (p531_2, words (spY x y).natAbs), (p531_1, words (spX x y).natAbs), (p481_3, words (spD u v)), (p481_2, words (spY u v).natAbs), (p481_1, words (spX u v).natAbs), (u4, words y.den), (u3, words y.num.natAbs), (u2, words x.den), (u1, words x.num.natAbs), (a4, words v.den), (a3, words v.num.natAbs), (a2, words u.den), (a1, words u.num.natAbs)] ⟨⟨0, rfl⟩, ⟨⟨1, rfl⟩, ⟨⟨2, rfl⟩, ⟨⟨3, rfl⟩, ⟨⟨4, rfl⟩, ⟨⟨5, rfl⟩, ⟨⟨6, rfl⟩, ⟨⟨7, rfl⟩, ⟨⟨8, rfl⟩, ⟨⟨9, rfl⟩, ⟨⟨10, rfl⟩, ⟨⟨11, rfl⟩, ⟨⟨12, rfl⟩, ⟨⟨13, rfl⟩, ⟨⟨14, rfl⟩, ⟨⟨15, rfl⟩, ⟨⟨16, rfl⟩, ⟨⟨17, rfl⟩, trivial⟩⟩⟩⟩⟩⟩⟩⟩⟩⟩⟩⟩⟩⟩⟩⟩⟩⟩).pickL [(g479, [.bool ((rb ((R : Nat) : Int))), .slice zo541 ((words ((R : Nat) : Int).natAbs).length) zc542, .bool false, .slice none 0 0, .slice uo543 ((words D).length) uc544]), (g529, [.bool ((rb T)), .slice zo537 ((words T.natAbs).length) zc538, .bool false, .slice none 0 0, .slice uo539 ((words 1).length) uc540]), (g12, [.bool (rb u.num), .slice a1 ((words u.num.natAbs).length) ac1, .slice a2 ((words u.den).length) ac2, .bool (rb v.num), .slice a3 ((words v.num.natAbs).length) ac3, .slice a4 ((words v.den).length) ac4, .bool (rb x.num), .slice u1 ((words x.num.natAbs).length) uc1, .slice u2 ((words x.den).length) uc2, .bool (rb y.num), .slice u3 ((words y.num.natAbs).length) uc3, .slice u4 ((words y.den).length) uc4]), (g8, [.bool false, .slice none 0 0, .slice none 0 0, .bool false, .slice none 0 0, .slice none 0 0]), (g6, [.bool false, .slice none 0 0, .slice none 0 0, .bool false, .slice none 0 0, .slice none 0 0]), (g4, [.bool (rb x.num), .slice u1 ((words x.num.natAbs).length) uc1, .slice u2 ((words x.den).length) uc2, .bool (rb y.num), .slice u3 ((words y.num.natAbs).length) uc3, .slice u4 ((words y.den).length) uc4]), (g2, [.bool (rb u.num), .slice a1 ((words u.num.natAbs).length) ac1, .slice a2 ((words u.den).length) ac2, .bool (rb v.num), .slice a3 ((words v.num.natAbs).length) ac3, .slice a4 ((words v.den).length) ac4])] [1, 0, 2, 3, 4, 5, 6] rfl (by decide)), hs548.nil, hs548.cap, hs547.nil, hs547.cap, hs546.nil, hs546.cap, hs545.nil, hs545.cap, hs534.nil, hs534.cap, hs533.nil, hs533.cap, hs532.nil, hs532.cap, hs484.nil, hs484.cap, hs483.nil, hs483.cap, hs482.nil, hs482.cap⟩
    · refine op_new (vs := [.bool false, .slice none 0 0, .bool false, .slice none 0 0, .slice none 0 0]) (t := 48) hA hS 8 rfl rfl rfl rfl (fun g => .pointer (some ⟨g, 0, none⟩)) (does_alloc (z := .agg #[.bool false, .slice none 0 0, .bool false, .slice none 0 0, .slice none 0 0]) (by kernel_rfl) rfl) rfl ?_
      intro g553 w554 hS
      refine ⟨(hS.partD (.cons _ (.cons _ (.cons_cons _ (.cons_cons _ (.cons_cons _ (.cons_cons _ (.cons_cons _ .slnil))))))) 0 rfl (.refl _)), ?_⟩
      intro a hA
      refine any_one (by kernel_rfl) (op_call hA 1 rfl rfl rfl rfl (enters_func  rfl rfl (fun w => by kernel_rfl)) (zspread_any (show Nm _ (Q6.rat u v) a1 ac1 a2 ac2 a3 ac3 a4 ac4 from ⟨⟨(hS.rd 7 rfl), ha.s1.nil, ha.s1.cap⟩, ⟨(hS.rd 6 rfl), ha.s2.nil, ha.s2.cap⟩, ⟨(hS.rd 5 rfl), ha.s3.nil, ha.s3.cap⟩, ⟨(hS.rd 4 rfl), ha.s4.nil, ha.s4.cap⟩⟩) hu hv) ?_)
      rintro _ w560 ⟨p555_1, p555_c1, p555_2, p555_c2, p555_3, p555_c3, rfl, hs556, hs557, hs558, hb559⟩
      replace hS := hS.call hb559
      replace hS := hS.addR hs556.rd
      replace hS := hS.addR hs557.rd
      replace hS := hS.addR hs558.rd
      refine ⟨_, rfl, (hS.partD (.cons _ (.cons _ (.cons_cons _ (.cons_cons _ (.cons_cons _ (.cons_cons _ (.cons_cons _ .slnil))))))) 3 rfl (.refl _)), ?_⟩
      intro a hA
      refine any_one (by kernel_rfl) (op_call hA 3 rfl rfl rfl rfl (enters_func  rfl rfl (fun w => by kernel_rfl)) (zspread_any (show Nm _ (Q6.rat x y) u1 uc1 u2 uc2 u3 uc3 u4 uc4 from ⟨⟨(hS.rd 6 rfl), hb.s1.nil, hb.s1.cap⟩, ⟨(hS.rd 5 rfl), hb.s2.nil, hb.s2.cap⟩, ⟨(hS.rd 4 rfl), hb.s3.nil, hb.s3.cap⟩, ⟨(hS.rd 3 rfl), hb.s4.nil, hb.s4.cap⟩⟩) hx hy) ?_)
      rintro _ w566 ⟨p561_1, p561_c1, p561_2, p561_c2, p561_3, p561_c3, rfl, hs562, hs563, hs564, hb565⟩
      replace hS := hS.call hb565
      replace hS := hS.addR hs562.rd
      replace hS := hS.addR hs563.rd
      replace hS := hS.addR hs564.rd
      refine ⟨_, rfl, (hS.partD (.cons _ (.cons _ (.cons_cons _ (.cons_cons _ (.cons_cons _ (.cons_cons _ (.cons_cons _ .slnil))))))) 6 rfl (.refl _)), ?_⟩
      intro a hA
      refine any_one (by kernel_rfl) (op_call hA 4 rfl rfl rfl rfl (enters_func  rfl rfl (fun w => by kernel_rfl)) (zdivmod_as ⟨(hS.rd 5 rfl), hs556.nil, hs556.cap⟩ ⟨(hS.rd 4 rfl), hs557.nil, hs557.cap⟩ ⟨(hS.rd 3 rfl), hs558.nil, hs558.cap⟩ ⟨(hS.rd 2 rfl), hs562.nil, hs562.cap⟩ ⟨(hS.rd 1 rfl), hs563.nil, hs563.cap⟩ ⟨(hS.rd 0 rfl), hs564.nil, hs564.cap⟩ (Nat.le_trans (spX_len hu hv) (by decide)) (Nat.le_trans (spY_len hu hv) (by decide)) (Nat.le_trans (spD_len hu hv) (by decide)) (Nat.le_trans (spX_len hx hy) (by decide)) (Nat.le_trans (spY_len hx hy) (by decide)) (Nat.le_trans (spD_len hx hy) (by decide)) (spD_ne u v) hx2 hT hR hD) ?_)
      rintro _ w580 ⟨zo567, zc568, uo569, uc570, zo571, zc572, uo573, uc574, rfl, hs575, hs576, hs577, hs578, hb579⟩
      replace hS := hS.call hb579
      replace hS := hS.addR hs575.rd
      replace hS := hS.addR hs576.rd
      replace hS := hS.addR hs577.rd
      replace hS := hS.addR hs578.rd
      refine ⟨_, rfl, (hS.partD (.cons _ (.cons _ (.cons_cons _ (.cons_cons _ (.cons_cons _ (.cons_cons _ (.cons_cons _ .slnil))))))) 10 rfl (.refl _)), ?_⟩
      intro a hA
      refine any_take hA 5 rfl rfl rfl rfl (by kernel_rfl) (by kernel_rfl) (by kernel_rfl) (fun c a w h => hP c a _ _ w h) (hS.partD (.cons _ (.cons _ (.cons_cons _ (.cons_cons _ (.cons_cons _ (.cons_cons _ (.cons_cons _ .slnil))))))) 10 rfl (.refl _)) (fun w1 hS => does_move rfl) ?_
      intro a hA
      refine any_take (v := .agg #[.bool ((rb T)), .slice zo567 ((words T.natAbs).length) zc568, .bool false, .slice none 0 0, .slice uo569 ((words 1).length) uc570]) hA 6 rfl rfl rfl rfl (by kernel_rfl) (by kernel_rfl) (by kernel_rfl) (fun c a w h => hP c a _ _ w h) (hS.partD (.cons _ (.cons _ (.cons_cons _ (.cons_cons _ (.cons_cons _ (.cons_cons _ (.cons_cons _ .slnil))))))) 10 rfl (.refl _)) (fun w1 hS => does_extract (vs := [.agg #[.bool ((rb T)), .slice zo567 ((words T.natAbs).length) zc568, .bool false, .slice none 0 0, .slice uo569 ((words 1).length) uc570], .agg #[.bool ((rb ((R : Nat) : Int))), .slice zo571 ((words ((R : Nat) : Int).natAbs).length) zc572, .bool false, .slice none 0 0, .slice uo573 ((words D).length) uc574]]) rfl rfl) ?_
      intro a hA
      refine any_take (v := .agg #[.bool ((rb ((R : Nat) : Int))), .slice zo571 ((words ((R : Nat) : Int).natAbs).length) zc572, .bool false, .slice none 0 0, .slice uo573 ((words D).length) uc574]) hA 7 rfl rfl rfl rfl (by kernel_rfl) (by kernel_rfl) (by kernel_rfl) (fun c a w h => hP c a _ _ w h) (hS.partD (.cons _ (.cons _ (.cons_cons _ (.cons_cons _ (.cons_cons _ (.cons_cons _ (.cons_cons _ .slnil))))))) 10 rfl (.refl _)) (fun w1 hS => does_extract (vs := [.agg #[.bool ((rb T)), .slice zo567 ((words T.natAbs).length) zc568, .bool false, .slice none 0 0, .slice uo569 ((words 1).length) uc570], .agg #[.bool ((rb ((R : Nat) : Int))), .slice zo571 ((words ((R : Nat) : Int).natAbs).length) zc572, .bool false, .slice none 0 0, .slice uo573 ((words D).length) uc574]]) rfl rfl) ?_
      intro a hA
      refine any_one (by kernel_rfl) (op_store (us := [.bool ((rb T)), .slice zo567 ((words T.natAbs).length) zc568, .bool false, .slice none 0 0, .slice uo569 ((words 1).length) uc570]) hA hS 10 rfl rfl rfl (sets_store (cs := [.bool ((rb T)), .slice zo567 ((words T.natAbs).length) zc568, .bool false, .slice none 0 0, .slice uo569 ((words 1).length) uc570]) rfl rfl rfl (by kernel_rfl) hS 0 rfl rfl rfl) 0 rfl rfl rfl rfl ?_)
      intro w581 hS
      refine ⟨(hS.partD (.cons _ (.cons _ (.cons_cons _ (.cons_cons _ (.cons_cons _ (.cons_cons _ (.cons_cons _ .slnil))))))) 10 rfl (.refl _)), ?_⟩
      refine any_one (by kernel_rfl) (op_store (us := [.bool ((rb ((R : Nat) : Int))), .slice zo571 ((words ((R : Nat) : Int).natAbs).length) zc572, .bool false, .slice none 0 0, .slice uo573 ((words D).length) uc574]) hA hS 11 rfl rfl rfl (sets_store (cs := [.bool ((rb ((R : Nat) : Int))), .slice zo571 ((words ((R : Nat) : Int).natAbs).length) zc572, .bool false, .slice none 0 0, .slice uo573 ((words D).length) uc574]) rfl rfl rfl (by kernel_rfl) hS 1 rfl rfl rfl) 1 rfl rfl rfl rfl ?_)
      intro w582 hS
      refine ⟨(hS.partD (.cons _ (.cons _ (.cons_cons _ (.cons_cons _ (.cons_cons _ (.cons_cons _ (.cons_cons _ .slnil))))))) 10 rfl (.refl _)), ?_⟩
      refine any_end (by kernel_rfl) ?_
      refine hJ96 _ _ ⟨g553, g479, zo567, zc568, uo569, uc570, zo571, zc572, uo573, uc574, p555_1, p555_c1, p555_2, p555_c2, p555_3, p555_c3, p561_1, p561_c1, p561_2, p561_c2, p561_3, p561_c3, hA.keep _ ⟨rfl, rfl, rfl, rfl, rfl, rfl, rfl, rfl, rfl, rfl, rfl, rfl, rfl, rfl, rfl, rfl, rfl, rfl, rfl, rfl, rfl, rfl, rfl, rfl, rfl, rfl, trivial⟩, ((hS.pickR [(uo573, words D), (zo571, words ((R : Nat) : Int).natAbs), (uo569, words 1), (zo567, words T.natAbs), (p561_3, words (spD x y)), (p561_2, words (spY x y).natAbs), (p561_1, words (spX x y).natAbs), (p555_3, words (spD u v)), (p555_2, words (spY u v).natAbs), (p555_1, words (spX u v).natAbs), (u4, words y.den), (u3, words y.num.natAbs), (u2, words x.den), (u1, words x.num.natAbs), (a4, words v.den), (a3, words v.num.natAbs), (a2, words u.den), (a1, words u.num.natAbs)] ⟨⟨0, rfl⟩, ⟨⟨1, rfl⟩, ⟨⟨2, rfl⟩, ⟨⟨3, rfl⟩, ⟨⟨4, rfl⟩, ⟨⟨5, rfl⟩, ⟨⟨6, rfl⟩, ⟨⟨7, rfl⟩, ⟨⟨8, rfl⟩, ⟨⟨9, rfl⟩, ⟨⟨10, rfl⟩, ⟨⟨11, rfl⟩, ⟨⟨12, rfl⟩, ⟨⟨13, rfl⟩, ⟨⟨14, rfl⟩, ⟨⟨15, rfl⟩, ⟨⟨16, rfl⟩, ⟨⟨17, rfl⟩, trivial⟩⟩⟩⟩⟩⟩⟩⟩⟩⟩⟩⟩⟩⟩⟩⟩⟩⟩).pickL [(g479, [.bool ((rb ((R : Nat) : Int))), .slice zo571 ((words ((R : Nat) : Int).natAbs).length) zc572, .bool false, .slice none 0 0, .slice uo573 ((words D).length) uc574]), (g553, [.bool ((rb T)), .slice zo567 ((words T.natAbs).length) zc568, .bool false, .slice none 0 0, .slice uo569 ((words 1).length) uc570]), (g12, [.bool (rb u.num), .slice a1 ((words u.num.natAbs).length) ac1, .slice a2 ((words u.den).length) ac2, .bool (rb v.num), .slice a3 ((words v.num.natAbs).length) ac3, .slice a4 ((words v.den).length) ac4, .bool (rb x.num), .slice u1 ((words x.num.natAbs).length) uc1, .slice u2 ((words x.den).length) uc2, .bool (rb y.num), .slice u3 ((words y.num.natAbs).length) uc3, .slice u4 ((words y.den).length) uc4]), (g8, [.bool false, .slice none 0 0, .slice none 0 0, .bool false, .slice none 0 0, .slice none 0 0]), (g6, [.bool false, .slice none 0 0, .slice none 0 0, .bool false, .slice none 0 0, .slice none 0 0]), (g4, [.bool (rb x.num), .slice u1 ((words x.num.natAbs).length) uc1, .slice u2 ((words x.den).length) uc2, .bool (rb y.num), .slice u3 ((words y.num.natAbs).length) uc3, .slice u4 ((words y.den).length) uc4]), (g2, [.bool (rb u.num), .slice a1 ((words u.num.natAbs).length) ac1, .slice a2 ((words u.den).length) ac2, .bool (rb v.num), .slice a3 ((words v.num.natAbs).length) ac3, .slice a4 ((words v.den).length) ac4])] [1, 0, 2, 3, 4, 5, 6] rfl (by decide)), hs578.nil, hs578.cap, hs577.nil, hs577.cap, hs576.nil, hs576.cap, hs575.nil, hs575.cap, hs564.nil, hs564.cap, hs563.nil, hs563.cap, hs562.nil, hs562.cap, hs558.nil, hs558.cap, hs557.nil, hs557.cap, hs556.nil, hs556.cap⟩
end Go.Proofs.Ytmibkfihcihphaa
namespace Go.Proofs.Ytmibkfihcihphaa
open Go.RowKit
set_option linter.unusedVariables false
set_option linter.unusedSimpArgs false
theorem dmT_sgn {x1 x2 : Int} {d1 d2 : Nat} : dmT x1 x2 d1 d2 * x2 = (x1 * (d2 : Int) / ((x2.natAbs * d1 : Nat) : Int)) * (x2.natAbs : Int) := by
  unfold dmT
  by_cases h : rb x2 = true
  · rw [if_pos h, abs_neg h, Int.neg_mul, Int.mul_neg]
  · have h' : rb x2 = false := by simpa using h
    rw [if_neg h, abs_nn h']
theorem dm_int {x1 x2 : Int} {d1 d2 : Nat} (h1 : d1 ≠ 0) (h2 : x2 ≠ 0) : dmT x1 x2 d1 d2 * x2 * (d1 : Int) + ((dmR x1 x2 d1 d2 : Nat) : Int) = x1 * (d2 : Int) ∧ ((dmR x1 x2 d1 d2 : Nat) : Int) < (x2.natAbs : Int) * (d1 : Int) := by
  have hn : ((x2.natAbs * d1 : Nat) : Int) ≠ 0 := by have := Nat.mul_ne_zero (show x2.natAbs ≠ 0 by omega) h1; omega
  have e : ((dmR x1 x2 d1 d2 : Nat) : Int) = x1 * (d2 : Int) % ((x2.natAbs * d1 : Nat) : Int) := Int.toNat_of_nonneg (Int.emod_nonneg _ hn)
  rw [e, dmT_sgn]
  constructor
  · have := Int.mul_ediv_add_emod (x1 * (d2 : Int)) ((x2.natAbs * d1 : Nat) : Int)
    rw [Int.mul_assoc, ← Int.natCast_mul, Int.mul_comm (x1 * (d2 : Int) / ((x2.natAbs * d1 : Nat) : Int))]
    exact this
  · rw [← Int.natCast_mul]
    exact Int.emod_lt_of_pos _ (by omega)
theorem dm_rat {x1 x2 : Int} {d1 d2 : Nat} (h1 : d1 ≠ 0) (h2 : d2 ≠ 0) (h : x2 ≠ 0) {u x : Rat} (hu : mkRat x1 d1 = u) (hx : mkRat x2 d2 = x) :
    ((dmT x1 x2 d1 d2 : Int) : Rat) * x + mkRat (dmR x1 x2 d1 d2) (d1 * d2) = u := by
  have e := (dm_int (x1 := x1) (d2 := d2) h1 h).1
  have e' := congrArg (fun z : Int => (z : Rat)) e
  simp only [Rat.intCast_add, Rat.intCast_mul] at e'
  have k1 : ((d1 : Nat) : Rat) ≠ 0 := by rw [Ne, Rat.natCast_eq_zero_iff]; exact h1
  have k2 : ((d2 : Nat) : Rat) ≠ 0 := by rw [Ne, Rat.natCast_eq_zero_iff]; exact h2
  subst hu hx
  rw [Rat.mkRat_eq_div, Rat.mkRat_eq_div, Rat.mkRat_eq_div, Rat.natCast_mul]
  simp only [← rat_nat_int] at e'
  generalize ((dmT x1 x2 d1 d2 : Int) : Rat) = T at *
  have e2 : (((dmR x1 x2 d1 d2 : Nat) : Int) : Rat) = ((dmR x1 x2 d1 d2 : Nat) : Rat) := rfl
  rw [e2]
  generalize ((dmR x1 x2 d1 d2 : Nat) : Rat) = R at *
  grind
theorem dm_nn {x1 x2 : Int} {d1 d2 : Nat} (h1 : d1 ≠ 0) (h2 : d2 ≠ 0) : (0 : Rat) ≤ mkRat (dmR x1 x2 d1 d2) (d1 * d2) := by
  have k : ¬ mkRat (dmR x1 x2 d1 d2) (d1 * d2) < mkRat 0 1 := by
    rw [mk_lt (Nat.mul_ne_zero h1 h2) (by decide), Int.zero_mul]
    omega
  rw [Rat.zero_mkRat] at k
  exact Rat.not_lt.1 k
theorem dm_lt {x1 x2 : Int} {d1 d2 : Nat} (h1 : d1 ≠ 0) (h2 : d2 ≠ 0) (h : x2 ≠ 0) : mkRat (dmR x1 x2 d1 d2) (d1 * d2) < mkRat (x2.natAbs : Int) d2 := by
  rw [mk_lt (Nat.mul_ne_zero h1 h2) h2]
  have e := (dm_int (x1 := x1) (d2 := d2) h1 h).2
  have := Int.mul_lt_mul_of_pos_right e (show (0 : Int) < (d2 : Int) by omega)
  rw [Int.natCast_mul, ← Int.mul_assoc]
  exact this
def quoR (u x : Rat) : Int := dmT (spX u 0) (spX x 0) (spD u 0) (spD x 0)
def remR (u x : Rat) : Rat := mkRat (dmR (spX u 0) (spX x 0) (spD u 0) (spD x 0)) (spD u 0 * spD x 0)
def dmQ (p q : Q6) : Q6 × Q6 × Int :=
  if wantR2 p q = 0 then
    if reQ q = 0 then (Q6.zero, Q6.zero, 3) else dmS (ratS (mkRat (quoR (reQ p) (reQ q)) 1) 0) (ratS (remR (reQ p) (reQ q)) 0)
  else (Q6.zero, Q6.zero, wantR2 p q)
theorem spX_ne {x : Rat} (h : x ≠ 0) : spX x 0 ≠ 0 := fun e => by
  have := spX_mk x 0
  rw [e, Rat.zero_mkRat] at this
  exact h this.symm
theorem quo_rem {u x : Rat} (h : x ≠ 0) : mkRat (quoR u x) 1 * x + remR u x = u := by
  have := dm_rat (spD_ne u 0) (spD_ne x 0) (spX_ne h) (spX_mk u 0) (spX_mk x 0)
  rw [Rat.mkRat_one]
  exact this
theorem rem_nn {u x : Rat} : 0 ≤ remR u x := dm_nn (spD_ne u 0) (spD_ne x 0)
end Go.Proofs.Ytmibkfihcihphaa
namespace Go.Proofs.Ytmibkfihcihphaa
open Go.RowKit
set_option linter.unusedVariables false
set_option linter.unusedSimpArgs false
set_option maxRecDepth 100000

theorem dmQ_any {w : World} {p q : Q6} {a1 a2 a3 a4 : Option Addr} {ac1 ac2 ac3 ac4 : Nat} (ha : Nm w p a1 ac1 a2 ac2 a3 ac3 a4 ac4) (hl : LenQ p) {u1 u2 u3 u4 : Option Addr} {uc1 uc2 uc3 uc4 : Nat} (hb : Nm w q u1 uc1 u2 uc2 u3 uc3 u4 uc4) (hm : LenQ q) : Calls Try.prog 10 #[numV p a1 ac1 a2 ac2 a3 ac3 a4 ac4, numV q u1 uc1 u2 uc2 u3 uc3 u4 uc4] w (AnsNN w (dmQ p q)) := by
  unfold dmQ
  by_cases hw : wantR2 p q = 0
  · rw [if_pos hw]
    obtain ⟨s1, s2⟩ := wantR2_ok hw
    obtain ⟨u, v, rfl, hu, hv⟩ := sound_rat ha.s1.rd.dig ha.s2.rd.dig ha.s3.rd.dig ha.s4.rd.dig s1
    obtain ⟨x, y, rfl, hx, hy⟩ := sound_rat hb.s1.rd.dig hb.s2.rd.dig hb.s3.rd.dig hb.s4.rd.dig s2
    have hw' := hw
    rw [wantR2_rat hu hv hx hy] at hw'
    have hvy : v = 0 ∧ y = 0 := by
      by_cases k : v = 0 ∧ y = 0
      · exact k
      · rw [if_neg k] at hw'; exact absurd hw' (by decide)
    obtain ⟨rfl, rfl⟩ := hvy
    rw [reQ_rat, reQ_rat]
    by_cases hz : x = 0
    · rw [if_pos hz]
      exact dmZ_any ha hb hu hv hx hy hw ⟨hz, rfl⟩
    · rw [if_neg hz]
      have m1 := spX_len hu hv
      have m3 := spD_len hu hv
      have m4 := spX_len hx hy
      have m6 := spD_len hx hy
      have n1 := dmT_len (x2 := spX x 0) (d1 := spD u 0) (k := 1024) (by decide) m1 m6
      have h0 := spX_ne hz
      have n2 := dmR_len (x1 := spX u 0) (d2 := spD x 0) (Nat.mul_ne_zero (by omega) (spD_ne u 0)) m4 m3
      have n4 := words_mul_length m3 m6
      have hD := Nat.mul_ne_zero (spD_ne u 0) (spD_ne x 0)
      refine dmW_any ha hb hu hv hx hy hw (fun k => hz k.1) h0 rfl rfl rfl hD (Nat.le_trans n1 (by decide)) (Nat.le_trans n2 (by decide)) one_len (Nat.le_trans n4 (by decide)) ?_ ?_
      · rw [setQ_rat _ _ (by decide), Rat.zero_mkRat]; rfl
      · rw [setQ_rat _ _ hD, Rat.zero_mkRat]; rfl
  · rw [if_neg hw]
    exact dmE_any ha hl hb hm (bne_of hw)
end Go.Proofs.Ytmibkfihcihphaa
namespace Go.Proofs.Ytmibkfihcihphaa
open Go.RowKit
set_option linter.unusedVariables false
set_option linter.unusedSimpArgs false
theorem cmpR_range (x y : Rat) : -1 ≤ cmpR x y ∧ cmpR x y ≤ 1 := by
  unfold cmpR
  split
  · exact ⟨by decide, by decide⟩
  · split <;> exact ⟨by decide, by decide⟩
theorem cmpR_swap (x y : Rat) : cmpR x y = -cmpR y x := by
  unfold cmpR
  by_cases h1 : x < y
  · rw [if_pos h1, if_neg (Rat.not_lt.2 (Rat.le_of_lt h1)), if_neg (fun e => by rw [e] at h1; exact Rat.lt_irrefl h1)]
  · rw [if_neg h1]
    by_cases h2 : x = y
    · rw [if_pos h2, h2, if_neg Rat.lt_irrefl, if_pos rfl]; rfl
    · have h3 : y < x := Rat.lt_of_le_of_ne (Rat.not_lt.1 h1) (fun e => h2 e.symm)
      rw [if_neg h2, if_pos h3]
      rfl
theorem cmpR_add (x y z : Rat) : cmpR (x + z) (y + z) = cmpR x y := by
  unfold cmpR
  have h1 : x + z < y + z ↔ x < y := Rat.add_lt_add_right
  have h2 : x + z = y + z ↔ x = y := by constructor <;> intro h <;> grind
  simp only [h1, h2]
theorem cmpR_nn {x : Rat} (h : 0 ≤ x) : 0 ≤ cmpR x 0 := by
  unfold cmpR
  rw [if_neg (Rat.not_lt.2 h)]
  split <;> decide
theorem cmpR_lt {x y : Rat} (h : x < y) : cmpR x y < 0 := by
  unfold cmpR
  rw [if_pos h]
  decide
theorem cmpR_neg {x y : Rat} (h : cmpR x y < 0) : x < y := by
  unfold cmpR at h
  by_cases k : x < y
  · exact k
  · rw [if_neg k] at h
    split at h <;> exact absurd h (by decide)
theorem wantR2_comm (p q : Q6) : wantR2 p q = wantR2 q p := by
  unfold wantR2
  by_cases h1 : soundQ p = true <;> by_cases h2 : soundQ q = true <;> by_cases h3 : p.t2.length = 0 <;> by_cases h4 : q.t2.length = 0 <;> simp [h1, h2, h3, h4]
theorem cmpQ_swap (p q : Q6) : (cmpQ p q).1 = -(cmpQ q p).1 ∧ (cmpQ p q).2 = (cmpQ q p).2 := by
  unfold cmpQ
  rw [wantR2_comm q p]
  by_cases h : wantR2 p q = 0
  · rw [if_pos h, if_pos h]
    exact ⟨cmpR_swap _ _, rfl⟩
  · rw [if_neg h, if_neg h]
    exact ⟨rfl, rfl⟩
theorem cmpQ_range (p q : Q6) : -1 ≤ (cmpQ p q).1 ∧ (cmpQ p q).1 ≤ 1 := by
  unfold cmpQ
  split
  · exact cmpR_range _ _
  · show -1 ≤ (0 : Int) ∧ (0 : Int) ≤ 1
    exact ⟨by decide, by decide⟩
theorem addQ_re {p r : Q6} (h : (addQ p r).2 = 0) : reQ (addQ p r).1 = reQ p + reQ r := by
  unfold addQ at *
  by_cases k : soundQ p = true ∧ soundQ r = true
  · rw [if_pos k] at h ⊢
    rw [(ratS_ok h).1, reQ_rat]
  · rw [if_neg k] at h
    exact absurd h (by decide)
theorem cmpQ_ok {p q : Q6} (h : (cmpQ p q).2 = 0) : (cmpQ p q).1 = cmpR (reQ p) (reQ q) := by
  unfold cmpQ at *
  by_cases k : wantR2 p q = 0
  · rw [if_pos k]
  · rw [if_neg k] at h
    exact absurd h k
theorem order_sum {p q r : Q6} (h1 : (cmpQ p q).2 = 0) (h2 : (addQ p r).2 = 0) (h3 : (addQ q r).2 = 0) (h4 : (cmpQ (addQ p r).1 (addQ q r).1).2 = 0) : (cmpQ (addQ p r).1 (addQ q r).1).1 = (cmpQ p q).1 := by
  rw [cmpQ_ok h4, cmpQ_ok h1, addQ_re h2, addQ_re h3, cmpR_add]
theorem same_zero (x : Q6) : sameQ x Q6.zero = false := by
  cases h : sameQ x Q6.zero with
  | false => rfl
  | true =>
    have := (sameQ_iff.1 h).2.1
    revert this
    decide
theorem cmpQ_rat {u x : Rat} (hu : fitR u) (hx : fitR x) : cmpQ (Q6.rat u 0) (Q6.rat x 0) = (cmpR u x, 0) := by
  unfold cmpQ
  rw [if_pos (by rw [wantR2_rat hu fitR_zero hx fitR_zero, if_pos ⟨rfl, rfl⟩]), reQ_rat, reQ_rat]
theorem fitR_neg {x : Rat} (h : fitR x) : fitR (-x) := by
  unfold fitR at *
  rw [Rat.neg_num, Rat.neg_den, Int.natAbs_neg]
  exact h
theorem rem_lt {u x : Rat} (h : x ≠ 0) : remR u x < x ∨ remR u x < -x := by
  have k := dm_lt (x1 := spX u 0) (spD_ne u 0) (spD_ne x 0) (spX_ne h)
  have e := spX_mk x 0
  rcases Int.le_total 0 (spX x 0) with c | c
  · left
    rw [Int.natAbs_of_nonneg c, e] at k
    exact k
  · right
    rw [show ((spX x 0).natAbs : Int) = -spX x 0 from by omega, ← Rat.neg_mkRat, e] at k
    exact k
theorem rem_abs {u x : Rat} (h : x ≠ 0) : (x < 0 → remR u x < 0 - x) ∧ (¬ x < 0 → remR u x < x) := by
  have k := rem_lt (u := u) h
  have n := rem_nn (u := u) (x := x)
  constructor
  · intro c
    rcases k with k | k <;> grind
  · intro c
    rcases k with k | k <;> grind
theorem whole_rat (n : Int) : Q6.rat (mkRat n 1) 0 = Q6.whole (rb n) n.natAbs := by
  rw [rat_whole, sgn_rb, Rat.mkRat_one]
  unfold rb
  by_cases h : n < 0
  · rw [decide_eq_true h]; simp; omega
  · rw [decide_eq_false h]; simp
theorem wholeQ_rat {n : Int} (h : fitR (mkRat n 1)) : wholeQ (Q6.rat (mkRat n 1) 0) = true := by
  rw [whole_rat]
  refine wholeQ_whole ?_ ?_
  · have := h.1
    rw [Rat.mkRat_one, Rat.num_intCast] at this
    exact this
  · unfold rb
    by_cases h : n < 0
    · rw [decide_eq_true h]; simp; omega
    · rw [decide_eq_false h]; simp
theorem order_rest {u v x y : Rat} (hu : fitR u) (hv : fitR v) (hx : fitR x) (hy : fitR y) {t : Q6 × Q6 × Int} (ht : dmQ (Q6.rat u v) (Q6.rat x y) = t) (h0 : t.2.2 = 0) :
    ((mulQ t.1 (Q6.rat x y)).2 = 0 → (addQ (mulQ t.1 (Q6.rat x y)).1 t.2.1).2 = 0 → sameQ (addQ (mulQ t.1 (Q6.rat x y)).1 t.2.1).1 (Q6.rat u v) = true) ∧ wholeQ t.1 = true ∧
    (cmpQ t.2.1 (Q6.whole false 0)).2 = 0 ∧ 0 ≤ (cmpQ t.2.1 (Q6.whole false 0)).1 ∧ (cmpQ (Q6.rat x y) (Q6.whole false 0)).2 = 0 ∧
    ((cmpQ (Q6.rat x y) (Q6.whole false 0)).1 < 0 → (cmpQ t.2.1 (subQ (Q6.whole false 0) (Q6.rat x y)).1).2 = 0 ∧ (cmpQ t.2.1 (subQ (Q6.whole false 0) (Q6.rat x y)).1).1 < 0) ∧
    (¬ (cmpQ (Q6.rat x y) (Q6.whole false 0)).1 < 0 → (cmpQ t.2.1 (Q6.rat x y)).2 = 0 ∧ (cmpQ t.2.1 (Q6.rat x y)).1 < 0) := by
  unfold dmQ at ht
  by_cases hw : wantR2 (Q6.rat u v) (Q6.rat x y) = 0
  · rw [if_pos hw, reQ_rat, reQ_rat] at ht
    rw [wantR2_rat hu hv hx hy] at hw
    have hvy : v = 0 ∧ y = 0 := by
      by_cases k : v = 0 ∧ y = 0
      · exact k
      · rw [if_neg k] at hw; exact absurd hw (by decide)
    obtain ⟨rfl, rfl⟩ := hvy
    by_cases hz : x = 0
    · rw [if_pos hz] at ht
      subst ht
      exact absurd h0 (by decide)
    · rw [if_neg hz] at ht
      unfold dmS at ht
      by_cases h1 : (ratS (mkRat (quoR u x) 1) 0).2 = 0
      · rw [if_pos h1] at ht
        by_cases h2 : (ratS (remR u x) 0).2 = 0
        · rw [if_pos h2] at ht
          obtain ⟨e1, f1, _⟩ := ratS_ok h1
          obtain ⟨e2, f2, _⟩ := ratS_ok h2
          rw [e1, e2] at ht
          subst ht
          simp only [zero_whole]
          have ra := rem_abs (u := u) hz
          refine ⟨?_, wholeQ_rat f1, by rw [cmpQ_rat f2 fitR_zero], by rw [cmpQ_rat f2 fitR_zero]; exact cmpR_nn rem_nn, by rw [cmpQ_rat hx fitR_zero], ?_, ?_⟩
          · rw [mulQ_rat f1 fitR_zero hx fitR_zero]
            intro a1
            obtain ⟨b1, g1, g2⟩ := ratS_ok a1
            rw [b1]
            simp only []
            rw [addQ_rat g1 g2 f2 fitR_zero]
            intro a2
            obtain ⟨b2, g3, g4⟩ := ratS_ok a2
            rw [b2]
            simp only []
            rw [sameQ_rat g3 g4 hu fitR_zero]
            have := quo_rem (u := u) hz
            exact decide_eq_true ⟨by grind, by grind⟩
          · rw [cmpQ_rat hx fitR_zero]
            intro k
            have k := cmpR_neg k
            have z0 : (0 : Rat) - 0 = 0 := by decide +kernel
            rw [subQ_rat fitR_zero fitR_zero hx fitR_zero, z0, ratS_fit (by rw [show (0 : Rat) - x = -x from by grind]; exact fitR_neg hx) fitR_zero]
            simp only []
            rw [cmpQ_rat f2 (by rw [show (0 : Rat) - x = -x from by grind]; exact fitR_neg hx)]
            exact ⟨rfl, cmpR_lt (ra.1 k)⟩
          · rw [cmpQ_rat hx fitR_zero, cmpQ_rat f2 hx]
            intro k
            exact ⟨rfl, cmpR_lt (ra.2 (fun c => k (cmpR_lt c)))⟩
        · rw [if_neg h2] at ht
          subst ht
          exact absurd h0 h2
      · rw [if_neg h1] at ht
        subst ht
        exact absurd h0 h1
  · rw [if_neg hw] at ht
    subst ht
    exact absurd h0 hw
theorem lenQ_dm (p q : Q6) : LenQ (dmQ p q).1 ∧ LenQ (dmQ p q).2.1 := by
  unfold dmQ
  split
  · split
    · exact ⟨lenQ_z, lenQ_z⟩
    · unfold dmS
      split
      · split
        · exact ⟨lenQ_ratS _ _, lenQ_ratS _ _⟩
        · exact ⟨lenQ_z, lenQ_z⟩
      · exact ⟨lenQ_z, lenQ_z⟩
  · exact ⟨lenQ_z, lenQ_z⟩
end Go.Proofs.Ytmibkfihcihphaa
