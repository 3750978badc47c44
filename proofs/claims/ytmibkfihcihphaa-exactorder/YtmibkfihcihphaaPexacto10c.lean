/- Walks of Cmp and of the quotients. Walks of divMod and DivMod. -/
import Derived.Test.YtmibkfihcihphaaPexacto10b
namespace Go.Proofs.Ytmibkfihcihphaa
open Go.RowKit
set_option linter.unusedVariables false
set_option linter.unusedSimpArgs false
set_option maxRecDepth 100000
theorem ExP_is1_22 : Is1 Try.prog 22 := ⟨⟨_, Try.underlying22, rfl⟩, by kernel_rfl⟩
theorem ExP_fld_48_0 : FieldAt Try.prog 48 0 0 := ⟨_, _, Try.underlying48, rfl, rfl, by kernel_rfl⟩
theorem ExP_fld_48_2 : FieldAt Try.prog 48 2 4 := ⟨_, _, Try.underlying48, rfl, rfl, by kernel_rfl⟩
theorem ExP_isS_26 : IsS Try.prog 26 6 := ⟨⟨_, Try.underlying26⟩, by kernel_rfl⟩
theorem ExP_isS_46 : IsS Try.prog 46 2 := ⟨⟨_, Try.underlying46⟩, by kernel_rfl⟩
theorem cmpE_any {w : World} {p q : Q6} {a1 a2 a3 a4 : Option Addr} {ac1 ac2 ac3 ac4 : Nat} (ha : Nm w p a1 ac1 a2 ac2 a3 ac3 a4 ac4) (hl : LenQ p) {u1 u2 u3 u4 : Option Addr} {uc1 uc2 uc3 uc4 : Nat} (hb : Nm w q u1 uc1 u2 uc2 u3 uc3 u4 uc4) (hm : LenQ q) (hw : (wantR2 p q != 0) = true) : Calls Try.prog 7 #[numV p a1 ac1 a2 ac2 a3 ac3 a4 ac4, numV q u1 uc1 u2 uc2 u3 uc3 u4 uc4] w fun e w' => e = .returned (.tuple #[.int .i64 0, .int .i64 (wantR2 p q)]) ∧ Below w.heap.size w w' := by
  have hS : St w w [] [(u4, q.q2), (u3, q.t2), (u2, q.q1), (u1, q.t1), (a4, p.q2), (a3, p.t2), (a2, p.q1), (a1, p.t1)] [] := ((((((((St.start w).addR ha.s1.rd).addR ha.s2.rd).addR ha.s3.rd).addR ha.s4.rd).addR hb.s1.rd).addR hb.s2.rd).addR hb.s3.rd).addR hb.s4.rd
  refine walk_of (l := [(0, .agg #[.bool p.b1, .slice a1 p.t1.length ac1, .slice a2 p.q1.length ac2, .bool p.b2, .slice a3 p.t2.length ac3, .slice a4 p.q2.length ac4]), (1, .agg #[.bool q.b1, .slice u1 q.t1.length uc1, .slice u2 q.q1.length uc2, .bool q.b2, .slice u3 q.t2.length uc3, .slice u4 q.q2.length uc4])]) Try.func7 rfl Try.ntmps7 rfl rfl ?_
  intro Q hret hnorm hP a hA
  refine wp_seq_k (fun K1 hK1 => ?_)
  refine wp_region_lit ?_
  refine seq_new (vs := [.bool p.b1, .slice a1 p.t1.length ac1, .slice a2 p.q1.length ac2, .bool p.b2, .slice a3 p.t2.length ac3, .slice a4 p.q2.length ac4]) (t := 26) hA hS rfl rfl rfl (fun g => .pointer (some ⟨g, 0, none⟩)) (does_box rfl rfl) rfl ?_
  intro g2 w3 hS a hA
  refine seq_new (vs := [.bool q.b1, .slice u1 q.t1.length uc1, .slice u2 q.q1.length uc2, .bool q.b2, .slice u3 q.t2.length uc3, .slice u4 q.q2.length uc4]) (t := 26) hA hS rfl rfl rfl (fun g => .pointer (some ⟨g, 0, none⟩)) (does_box rfl rfl) rfl ?_
  intro g4 w5 hS a hA
  refine seq_do hA rfl rfl rfl (does_assign rfl) ?_
  intro a hA
  refine seq_do hA rfl rfl rfl (does_assign rfl) ?_
  intro a hA
  refine seq_end ?_
  refine hK1 _ _ ?_
  refine wp_seq_k (fun K6 hK6 => ?_)
  refine wp_seq_k (fun K7 hK7 => ?_)
  refine wp_region_lit ?_
  refine seq_do (v := .agg #[.bool p.b1, .slice a1 p.t1.length ac1, .slice a2 p.q1.length ac2, .bool p.b2, .slice a3 p.t2.length ac3, .slice a4 p.q2.length ac4]) hA rfl rfl rfl (does_loadS hS ExP_isS_26 rfl 1 rfl (cs := [.bool p.b1, .slice a1 p.t1.length ac1, .slice a2 p.q1.length ac2, .bool p.b2, .slice a3 p.t2.length ac3, .slice a4 p.q2.length ac4]) rfl rfl) ?_
  intro a hA
  refine seq_do (v := .agg #[.bool q.b1, .slice u1 q.t1.length uc1, .slice u2 q.q1.length uc2, .bool q.b2, .slice u3 q.t2.length uc3, .slice u4 q.q2.length uc4]) hA rfl rfl rfl (does_loadS hS ExP_isS_26 rfl 0 rfl (cs := [.bool q.b1, .slice u1 q.t1.length uc1, .slice u2 q.q1.length uc2, .bool q.b2, .slice u3 q.t2.length uc3, .slice u4 q.q2.length uc4]) rfl rfl) ?_
  intro a hA
  refine seq_new (vs := [.bool p.b1, .slice a1 p.t1.length ac1, .slice a2 p.q1.length ac2, .bool p.b2, .slice a3 p.t2.length ac3, .slice a4 p.q2.length ac4, .bool q.b1, .slice u1 q.t1.length uc1, .slice u2 q.q1.length uc2, .bool q.b2, .slice u3 q.t2.length uc3, .slice u4 q.q2.length uc4]) (t := 26) hA hS rfl rfl rfl (fun g => .slice (some ⟨g, 0, none⟩) 2 2) (does_buildSlice rfl (by kernel_rfl)) rfl ?_
  intro g8 w9 hS a hA
  refine seq_call hA rfl rfl rfl (enters_func  rfl rfl (fun w => by kernel_rfl)) (wantR2_any (show Nm _ p a1 ac1 a2 ac2 a3 ac3 a4 ac4 from ⟨⟨(hS.rd 7 rfl), ha.s1.nil, ha.s1.cap⟩, ⟨(hS.rd 6 rfl), ha.s2.nil, ha.s2.cap⟩, ⟨(hS.rd 5 rfl), ha.s3.nil, ha.s3.cap⟩, ⟨(hS.rd 4 rfl), ha.s4.nil, ha.s4.cap⟩⟩) hl (show Nm _ q u1 uc1 u2 uc2 u3 uc3 u4 uc4 from ⟨⟨(hS.rd 3 rfl), hb.s1.nil, hb.s1.cap⟩, ⟨(hS.rd 2 rfl), hb.s2.nil, hb.s2.cap⟩, ⟨(hS.rd 1 rfl), hb.s3.nil, hb.s3.cap⟩, ⟨(hS.rd 0 rfl), hb.s4.nil, hb.s4.cap⟩⟩) hm (hS.blk 0 rfl) rfl) ?_
  rintro _ w11 ⟨rfl, hb10⟩
  replace hS := hS.call hb10
  refine ⟨_, rfl, ?_⟩
  intro a hA
  refine seq_do hA rfl rfl rfl (does_assign rfl) ?_
  intro a hA
  refine seq_end ?_
  refine hK7 _ _ ?_
  refine wp_seq_k (fun K12 hK12 => ?_)
  refine wp_region_lit ?_
  refine seq_do hA rfl rfl rfl (does_move rfl) ?_
  intro a hA
  refine seq_do (v := .bool true) hA rfl rfl rfl (does_bin rfl rfl (fun w => (bin_neq w).trans (by rw [show ((wantR2 p q != 0)) = true from hw]))) ?_
  intro a hA
  refine seq_end ?_
  refine hK12 _ _ ?_
  refine wp_cond_true (hA.ev rfl) ?_
  refine wp_seq_k (fun K13 hK13 => ?_)
  refine wp_region_lit ?_
  refine seq_do hA rfl rfl rfl (does_move rfl) ?_
  intro a hA
  refine seq_do hA rfl rfl rfl (does_assign rfl) ?_
  intro a hA
  refine seq_do hA rfl rfl rfl (does_assign rfl) ?_
  intro a hA
  refine seq_end ?_
  refine hK13 _ _ ?_
  refine wp_ret ?_
  refine hret _ _ ?_
  refine ends (v := .tuple #[.int .i64 0, .int .i64 (wantR2 p q)]) hA rfl (.cons (res_tmp rfl) (.cons (res_tmp rfl) .nil)) rfl ?_
  exact ⟨rfl, hS.bel⟩
theorem cmpW_any {w : World} {u v x y : Rat} {a1 a2 a3 a4 : Option Addr} {ac1 ac2 ac3 ac4 : Nat} (ha : Nm w (Q6.rat u v) a1 ac1 a2 ac2 a3 ac3 a4 ac4) {u1 u2 u3 u4 : Option Addr} {uc1 uc2 uc3 uc4 : Nat} (hb : Nm w (Q6.rat x y) u1 uc1 u2 uc2 u3 uc3 u4 uc4) (hu : fitR u) (hv : fitR v) (hx : fitR x) (hy : fitR y) (hw : wantR2 (Q6.rat u v) (Q6.rat x y) = 0) : Calls Try.prog 7 #[numV (Q6.rat u v) a1 ac1 a2 ac2 a3 ac3 a4 ac4, numV (Q6.rat x y) u1 uc1 u2 uc2 u3 uc3 u4 uc4] w fun e w' => e = .returned (.tuple #[.int .i64 (cmpR u x), .int .i64 0]) ∧ Below w.heap.size w w' := by
  have m1 := spX_len hu hv
  have m3 := spD_len hu hv
  have m4 := spX_len hx hy
  have m6 := spD_len hx hy
  have n1 := abs_mul_len m1 (nat_abs_len m6)
  have n2 := abs_mul_len m4 (nat_abs_len m3)
  have hS : St w w [] [(u4, words y.den), (u3, words y.num.natAbs), (u2, words x.den), (u1, words x.num.natAbs), (a4, words v.den), (a3, words v.num.natAbs), (a2, words u.den), (a1, words u.num.natAbs)] [] := ((((((((St.start w).addR ha.s1.rd).addR ha.s2.rd).addR ha.s3.rd).addR ha.s4.rd).addR hb.s1.rd).addR hb.s2.rd).addR hb.s3.rd).addR hb.s4.rd
  refine walk_of (l := [(0, .agg #[.bool (rb u.num), .slice a1 ((words u.num.natAbs).length) ac1, .slice a2 ((words u.den).length) ac2, .bool (rb v.num), .slice a3 ((words v.num.natAbs).length) ac3, .slice a4 ((words v.den).length) ac4]), (1, .agg #[.bool (rb x.num), .slice u1 ((words x.num.natAbs).length) uc1, .slice u2 ((words x.den).length) uc2, .bool (rb y.num), .slice u3 ((words y.num.natAbs).length) uc3, .slice u4 ((words y.den).length) uc4])]) Try.func7 rfl Try.ntmps7 rfl rfl ?_
  intro Q hret hnorm hP a hA
  refine wp_seq_k (fun K1 hK1 => ?_)
  refine wp_region_lit ?_
  refine seq_new (vs := [.bool (rb u.num), .slice a1 ((words u.num.natAbs).length) ac1, .slice a2 ((words u.den).length) ac2, .bool (rb v.num), .slice a3 ((words v.num.natAbs).length) ac3, .slice a4 ((words v.den).length) ac4]) (t := 26) hA hS rfl rfl rfl (fun g => .pointer (some ⟨g, 0, none⟩)) (does_box rfl rfl) rfl ?_
  intro g2 w3 hS a hA
  refine seq_new (vs := [.bool (rb x.num), .slice u1 ((words x.num.natAbs).length) uc1, .slice u2 ((words x.den).length) uc2, .bool (rb y.num), .slice u3 ((words y.num.natAbs).length) uc3, .slice u4 ((words y.den).length) uc4]) (t := 26) hA hS rfl rfl rfl (fun g => .pointer (some ⟨g, 0, none⟩)) (does_box rfl rfl) rfl ?_
  intro g4 w5 hS a hA
  refine seq_do hA rfl rfl rfl (does_assign rfl) ?_
  intro a hA
  refine seq_do hA rfl rfl rfl (does_assign rfl) ?_
  intro a hA
  refine seq_end ?_
  refine hK1 _ _ ?_
  refine wp_seq_k (fun K6 hK6 => ?_)
  refine wp_seq_k (fun K7 hK7 => ?_)
  refine wp_region_lit ?_
  refine seq_do (v := .agg #[.bool (rb u.num), .slice a1 ((words u.num.natAbs).length) ac1, .slice a2 ((words u.den).length) ac2, .bool (rb v.num), .slice a3 ((words v.num.natAbs).length) ac3, .slice a4 ((words v.den).length) ac4]) hA rfl rfl rfl (does_loadS hS ExP_isS_26 rfl 1 rfl (cs := [.bool (rb u.num), .slice a1 ((words u.num.natAbs).length) ac1, .slice a2 ((words u.den).length) ac2, .bool (rb v.num), .slice a3 ((words v.num.natAbs).length) ac3, .slice a4 ((words v.den).length) ac4]) rfl rfl) ?_
  intro a hA
  refine seq_do (v := .agg #[.bool (rb x.num), .slice u1 ((words x.num.natAbs).length) uc1, .slice u2 ((words x.den).length) uc2, .bool (rb y.num), .slice u3 ((words y.num.natAbs).length) uc3, .slice u4 ((words y.den).length) uc4]) hA rfl rfl rfl (does_loadS hS ExP_isS_26 rfl 0 rfl (cs := [.bool (rb x.num), .slice u1 ((words x.num.natAbs).length) uc1, .slice u2 ((words x.den).length) uc2, .bool (rb y.num), .slice u3 ((words y.num.natAbs).length) uc3, .slice u4 ((words y.den).length) uc4]) rfl rfl) ?_
  intro a hA
  refine seq_new (vs := [.bool (rb u.num), .slice a1 ((words u.num.natAbs).length) ac1, .slice a2 ((words u.den).length) ac2, .bool (rb v.num), .slice a3 ((words v.num.natAbs).length) ac3, .slice a4 ((words v.den).length) ac4, .bool (rb x.num), .slice u1 ((words x.num.natAbs).length) uc1, .slice u2 ((words x.den).length) uc2, .bool (rb y.num), .slice u3 ((words y.num.natAbs).length) uc3, .slice u4 ((words y.den).length) uc4]) (t := 26) hA hS rfl rfl rfl (fun g => .slice (some ⟨g, 0, none⟩) 2 2) (does_buildSlice rfl (by kernel_rfl)) rfl ?_
  intro g8 w9 hS a hA
  refine seq_call hA rfl rfl rfl (enters_func  rfl rfl (fun w => by kernel_rfl)) (wantR2_any (show Nm _ (Q6.rat u v) a1 ac1 a2 ac2 a3 ac3 a4 ac4 from ⟨⟨(hS.rd 7 rfl), ha.s1.nil, ha.s1.cap⟩, ⟨(hS.rd 6 rfl), ha.s2.nil, ha.s2.cap⟩, ⟨(hS.rd 5 rfl), ha.s3.nil, ha.s3.cap⟩, ⟨(hS.rd 4 rfl), ha.s4.nil, ha.s4.cap⟩⟩) (lenQ_rat hu hv) (show Nm _ (Q6.rat x y) u1 uc1 u2 uc2 u3 uc3 u4 uc4 from ⟨⟨(hS.rd 3 rfl), hb.s1.nil, hb.s1.cap⟩, ⟨(hS.rd 2 rfl), hb.s2.nil, hb.s2.cap⟩, ⟨(hS.rd 1 rfl), hb.s3.nil, hb.s3.cap⟩, ⟨(hS.rd 0 rfl), hb.s4.nil, hb.s4.cap⟩⟩) (lenQ_rat hx hy) (hS.blk 0 rfl) hw) ?_
  rintro _ w11 ⟨rfl, hb10⟩
  replace hS := hS.call hb10
  refine ⟨_, rfl, ?_⟩
  intro a hA
  refine seq_do hA rfl rfl rfl (does_assign rfl) ?_
  intro a hA
  refine seq_end ?_
  refine hK7 _ _ ?_
  refine wp_seq_k (fun K12 hK12 => ?_)
  refine wp_region_lit ?_
  refine seq_do hA rfl rfl rfl (does_move rfl) ?_
  intro a hA
  refine seq_do (v := .bool false) hA rfl rfl rfl (does_bin rfl rfl (fun w => by kernel_rfl)) ?_
  intro a hA
  refine seq_end ?_
  refine hK12 _ _ ?_
  refine wp_cond_false (hA.ev rfl) ?_
  refine wp_skip ?_
  refine hK6 _ _ ?_
  refine wp_seq_k (fun K13 hK13 => ?_)
  have hJ58 : ∀ a w1, (∃ (J32g : Nat) (J33g : Nat) (J34 : Option Addr) (J35 : Nat) (J36 : Option Addr) (J37 : Nat) (J38 : Option Addr) (J39 : Nat) (J40 : Option Addr) (J41 : Nat) (J42 : Option Addr) (J43 : Nat) (J44 : Option Addr) (J45 : Nat), Sl a 31 [(0, .agg #[.bool (rb u.num), .slice a1 ((words u.num.natAbs).length) ac1, .slice a2 ((words u.den).length) ac2, .bool (rb v.num), .slice a3 ((words v.num.natAbs).length) ac3, .slice a4 ((words v.den).length) ac4]), (1, .agg #[.bool (rb x.num), .slice u1 ((words x.num.natAbs).length) uc1, .slice u2 ((words x.den).length) uc2, .bool (rb y.num), .slice u3 ((words y.num.natAbs).length) uc3, .slice u4 ((words y.den).length) uc4]), (2, .pointer (some ⟨g2, 0, none⟩)), (3, .pointer (some ⟨g4, 0, none⟩)), (4, .int .i64 0), (5, .int .i64 0), (6, .int .i64 0), (7, .pointer (some ⟨J32g, 0, none⟩)), (8, .pointer (some ⟨J33g, 0, none⟩)), (9, .agg #[.bool (rb u.num), .slice a1 ((words u.num.natAbs).length) ac1, .slice a2 ((words u.den).length) ac2, .bool (rb v.num), .slice a3 ((words v.num.natAbs).length) ac3, .slice a4 ((words v.den).length) ac4]), (10, .agg #[.bool (rb x.num), .slice u1 ((words x.num.natAbs).length) uc1, .slice u2 ((words x.den).length) uc2, .bool (rb y.num), .slice u3 ((words y.num.natAbs).length) uc3, .slice u4 ((words y.den).length) uc4]), (11, .slice (some ⟨g8, 0, none⟩) 2 2), (12, .int .i64 0), (13, .int .i64 0), (14, .bool false), (16, .agg #[.bool (rb u.num), .slice a1 ((words u.num.natAbs).length) ac1, .slice a2 ((words u.den).length) ac2, .bool (rb v.num), .slice a3 ((words v.num.natAbs).length) ac3, .slice a4 ((words v.den).length) ac4]), (17, .agg #[.bool ((rb (spX u v))), .slice J34 ((words (spX u v).natAbs).length) J35, .bool ((rb (spY u v))), .slice J36 ((words (spY u v).natAbs).length) J37, .slice J38 ((words (spD u v)).length) J39]), (18, .agg #[.bool (rb x.num), .slice u1 ((words x.num.natAbs).length) uc1, .slice u2 ((words x.den).length) uc2, .bool (rb y.num), .slice u3 ((words y.num.natAbs).length) uc3, .slice u4 ((words y.den).length) uc4]), (19, .agg #[.bool ((rb (spX x y))), .slice J40 ((words (spX x y).natAbs).length) J41, .bool ((rb (spY x y))), .slice J42 ((words (spY x y).natAbs).length) J43, .slice J44 ((words (spD x y)).length) J45])] ∧ St w w1 [(J33g, [.bool ((rb (spX x y))), .slice J40 ((words (spX x y).natAbs).length) J41, .bool ((rb (spY x y))), .slice J42 ((words (spY x y).natAbs).length) J43, .slice J44 ((words (spD x y)).length) J45]), (J32g, [.bool ((rb (spX u v))), .slice J34 ((words (spX u v).natAbs).length) J35, .bool ((rb (spY u v))), .slice J36 ((words (spY u v).natAbs).length) J37, .slice J38 ((words (spD u v)).length) J39]), (g8, [.bool (rb u.num), .slice a1 ((words u.num.natAbs).length) ac1, .slice a2 ((words u.den).length) ac2, .bool (rb v.num), .slice a3 ((words v.num.natAbs).length) ac3, .slice a4 ((words v.den).length) ac4, .bool (rb x.num), .slice u1 ((words x.num.natAbs).length) uc1, .slice u2 ((words x.den).length) uc2, .bool (rb y.num), .slice u3 ((words y.num.natAbs).length) uc3, .slice u4 ((words y.den).length) uc4]), (g4, [.bool (rb x.num), .slice u1 ((words x.num.natAbs).length) uc1, .slice u2 ((words x.den).length) uc2, .bool (rb y.num), .slice u3 ((words y.num.natAbs).length) uc3, .slice u4 ((words y.den).length) uc4]), (g2, [.bool (rb u.num), .slice a1 ((words u.num.natAbs).length) ac1, .slice a2 ((words u.den).length) ac2, .bool (rb v.num), .slice a3 ((words v.num.natAbs).length) ac3, .slice a4 ((words v.den).length) ac4])] [(J44, words (spD x y)), (J42, words (spY x y).natAbs), (J40, words (spX x y).natAbs), (J38, words (spD u v)), (J36, words (spY u v).natAbs), (J34, words (spX u v).natAbs), (u4, words y.den), (u3, words y.num.natAbs), (u2, words x.den), (u1, words x.num.natAbs), (a4, words v.den), (a3, words v.num.natAbs), (a2, words u.den), (a1, words u.num.natAbs)] [] ∧ (J44 = none → J45 = 0) ∧ (words (spD x y) : List Nat).length ≤ J45 ∧ (J42 = none → J43 = 0) ∧ (words (spY x y).natAbs : List Nat).length ≤ J43 ∧ (J40 = none → J41 = 0) ∧ (words (spX x y).natAbs : List Nat).length ≤ J41 ∧ (J38 = none → J39 = 0) ∧ (words (spD u v) : List Nat).length ≤ J39 ∧ (J36 = none → J37 = 0) ∧ (words (spY u v).natAbs : List Nat).length ≤ J37 ∧ (J34 = none → J35 = 0) ∧ (words (spX u v).natAbs : List Nat).length ≤ J35) → K13 a w1 := by
    clear hA hS
    rintro a w59 ⟨J32g, J33g, J34, J35, J36, J37, J38, J39, J40, J41, J42, J43, J44, J45, hA, hS, hn46, hc47, hn48, hc49, hn50, hc51, hn52, hc53, hn54, hc55, hn56, hc57⟩
    refine hK13 _ _ ?_
    refine wp_seq_k (fun K60 hK60 => ?_)
    refine wp_draw (S := fun w1 => St w w1 [(J33g, [.bool ((rb (spX x y))), .slice J40 ((words (spX x y).natAbs).length) J41, .bool ((rb (spY x y))), .slice J42 ((words (spY x y).natAbs).length) J43, .slice J44 ((words (spD x y)).length) J45]), (J32g, [.bool ((rb (spX u v))), .slice J34 ((words (spX u v).natAbs).length) J35, .bool ((rb (spY u v))), .slice J36 ((words (spY u v).natAbs).length) J37, .slice J38 ((words (spD u v)).length) J39]), (g8, [.bool (rb u.num), .slice a1 ((words u.num.natAbs).length) ac1, .slice a2 ((words u.den).length) ac2, .bool (rb v.num), .slice a3 ((words v.num.natAbs).length) ac3, .slice a4 ((words v.den).length) ac4, .bool (rb x.num), .slice u1 ((words x.num.natAbs).length) uc1, .slice u2 ((words x.den).length) uc2, .bool (rb y.num), .slice u3 ((words y.num.natAbs).length) uc3, .slice u4 ((words y.den).length) uc4]), (g4, [.bool (rb x.num), .slice u1 ((words x.num.natAbs).length) uc1, .slice u2 ((words x.den).length) uc2, .bool (rb y.num), .slice u3 ((words y.num.natAbs).length) uc3, .slice u4 ((words y.den).length) uc4]), (g2, [.bool (rb u.num), .slice a1 ((words u.num.natAbs).length) ac1, .slice a2 ((words u.den).length) ac2, .bool (rb v.num), .slice a3 ((words v.num.natAbs).length) ac3, .slice a4 ((words v.den).length) ac4])] [(J44, words (spD x y)), (J42, words (spY x y).natAbs), (J40, words (spX x y).natAbs), (J38, words (spD u v)), (J36, words (spY u v).natAbs), (J34, words (spX u v).natAbs), (u4, words y.den), (u3, words y.num.natAbs), (u2, words x.den), (u1, words x.num.natAbs), (a4, words v.den), (a3, words v.num.natAbs), (a2, words u.den), (a1, words u.num.natAbs)] []) (by kernel_rfl) ?_
    replace hS := hS.drew
    refine any_take (v := .pointer (some ⟨J32g, 0, none⟩)) hA 0 rfl rfl rfl rfl (by kernel_rfl) (by kernel_rfl) (by kernel_rfl) (fun c a w h => hP c a _ _ w h) hS (fun w1 hS => does_field ExP_fld_48_0 rfl rfl) ?_
    intro a hA
    refine any_take (v := .agg #[.bool ((rb (spX u v))), .slice J34 ((words (spX u v).natAbs).length) J35]) hA 1 rfl rfl rfl rfl (by kernel_rfl) (by kernel_rfl) (by kernel_rfl) (fun c a w h => hP c a _ _ w h) hS (fun w1 hS => does_loadS hS ExP_isS_46 rfl 1 rfl (cs := [.bool ((rb (spX u v))), .slice J34 ((words (spX u v).natAbs).length) J35]) rfl rfl) ?_
    intro a hA
    refine any_take (v := .pointer (some ⟨J33g, 4, none⟩)) hA 2 rfl rfl rfl rfl (by kernel_rfl) (by kernel_rfl) (by kernel_rfl) (fun c a w h => hP c a _ _ w h) hS (fun w1 hS => does_field ExP_fld_48_2 rfl rfl) ?_
    intro a hA
    refine any_take hA 3 rfl rfl rfl rfl (by kernel_rfl) (by kernel_rfl) (by kernel_rfl) (fun c a w h => hP c a _ _ w h) hS (fun w1 hS => does_load1 hS ExP_is1_22 rfl 0 rfl rfl) ?_
    intro a hA
    refine any_take (v := .pointer (some ⟨J33g, 0, none⟩)) hA 5 rfl rfl rfl rfl (by kernel_rfl) (by kernel_rfl) (by kernel_rfl) (fun c a w h => hP c a _ _ w h) hS (fun w1 hS => does_field ExP_fld_48_0 rfl rfl) ?_
    intro a hA
    refine any_take (v := .agg #[.bool ((rb (spX x y))), .slice J40 ((words (spX x y).natAbs).length) J41]) hA 6 rfl rfl rfl rfl (by kernel_rfl) (by kernel_rfl) (by kernel_rfl) (fun c a w h => hP c a _ _ w h) hS (fun w1 hS => does_loadS hS ExP_isS_46 rfl 0 rfl (cs := [.bool ((rb (spX x y))), .slice J40 ((words (spX x y).natAbs).length) J41]) rfl rfl) ?_
    intro a hA
    refine any_take (v := .pointer (some ⟨J32g, 4, none⟩)) hA 7 rfl rfl rfl rfl (by kernel_rfl) (by kernel_rfl) (by kernel_rfl) (fun c a w h => hP c a _ _ w h) hS (fun w1 hS => does_field ExP_fld_48_2 rfl rfl) ?_
    intro a hA
    refine any_take hA 8 rfl rfl rfl rfl (by kernel_rfl) (by kernel_rfl) (by kernel_rfl) (fun c a w h => hP c a _ _ w h) hS (fun w1 hS => does_load1 hS ExP_is1_22 rfl 1 rfl rfl) ?_
    intro a hA
    refine any_one (by kernel_rfl) (op_call hA 4 rfl rfl rfl rfl (enters_func  rfl rfl (fun w => by kernel_rfl)) (zscaled_any ⟨(hS.rd 5 rfl), hn56, hc57⟩ ⟨(hS.rd 0 rfl), hn46, hc47⟩ (by omega) (by omega)) ?_)
    rintro _ w65 ⟨zo61, zc62, rfl, hs63, hb64⟩
    replace hS := hS.call hb64
    replace hS := hS.addR hs63.rd
    refine ⟨_, rfl, (hS.partD (.refl _) 1 rfl (.refl _)), ?_⟩
    intro a hA
    refine any_one (by kernel_rfl) (op_call hA 9 rfl rfl rfl rfl (enters_func  rfl rfl (fun w => by kernel_rfl)) (zscaled_any ⟨(hS.rd 3 rfl), hn50, hc51⟩ ⟨(hS.rd 4 rfl), hn52, hc53⟩ (by omega) (by omega)) ?_)
    rintro _ w70 ⟨zo66, zc67, rfl, hs68, hb69⟩
    replace hS := hS.call hb69
    replace hS := hS.addR hs68.rd
    refine ⟨_, rfl, (hS.partD (.refl _) 2 rfl (.refl _)), ?_⟩
    intro a hA
    refine any_one (by kernel_rfl) (op_call hA 10 rfl rfl rfl rfl (enters_func  rfl rfl (fun w => by kernel_rfl)) (zorder_any ⟨(hS.rd 1 rfl), hs63.nil, hs63.cap⟩ ⟨(hS.rd 0 rfl), hs68.nil, hs68.cap⟩ (by omega) (by omega)) ?_)
    rintro _ w72 ⟨rfl, hb71⟩
    replace hS := hS.call hb71
    refine ⟨_, rfl, (hS.partD (.refl _) 2 rfl (.refl _)), ?_⟩
    intro a hA
    refine any_take hA 11 rfl rfl rfl rfl (by kernel_rfl) (by kernel_rfl) (by kernel_rfl) (fun c a w h => hP c a _ _ w h) (hS.partD (.refl _) 2 rfl (.refl _)) (fun w1 hS => does_assign rfl) ?_
    intro a hA
    refine any_take hA 12 rfl rfl rfl rfl (by kernel_rfl) (by kernel_rfl) (by kernel_rfl) (fun c a w h => hP c a _ _ w h) (hS.partD (.refl _) 2 rfl (.refl _)) (fun w1 hS => does_assign rfl) ?_
    intro a hA
    refine any_end (by kernel_rfl) ?_
    refine hK60 _ _ ?_
    refine wp_ret ?_
    refine hret _ _ ?_
    refine ends (v := .tuple #[.int .i64 (cmpZ ((spX u v) * ((spD x y : Nat) : Int)) ((spX x y) * ((spD u v : Nat) : Int))), .int .i64 0]) hA rfl (.cons (res_tmp rfl) (.cons (res_tmp rfl) .nil)) rfl ?_
    exact ⟨by rw [← cmp_mk (spD_ne u v) (spD_ne x y) (spX_mk u v) (spX_mk x y)], hS.bel⟩
  refine wp_draw (S := fun w1 => St w w1 [(g8, [.bool (rb u.num), .slice a1 ((words u.num.natAbs).length) ac1, .slice a2 ((words u.den).length) ac2, .bool (rb v.num), .slice a3 ((words v.num.natAbs).length) ac3, .slice a4 ((words v.den).length) ac4, .bool (rb x.num), .slice u1 ((words x.num.natAbs).length) uc1, .slice u2 ((words x.den).length) uc2, .bool (rb y.num), .slice u3 ((words y.num.natAbs).length) uc3, .slice u4 ((words y.den).length) uc4]), (g4, [.bool (rb x.num), .slice u1 ((words x.num.natAbs).length) uc1, .slice u2 ((words x.den).length) uc2, .bool (rb y.num), .slice u3 ((words y.num.natAbs).length) uc3, .slice u4 ((words y.den).length) uc4]), (g2, [.bool (rb u.num), .slice a1 ((words u.num.natAbs).length) ac1, .slice a2 ((words u.den).length) ac2, .bool (rb v.num), .slice a3 ((words v.num.natAbs).length) ac3, .slice a4 ((words v.den).length) ac4])] [(u4, words y.den), (u3, words y.num.natAbs), (u2, words x.den), (u1, words x.num.natAbs), (a4, words v.den), (a3, words v.num.natAbs), (a2, words u.den), (a1, words u.num.natAbs)] []) (by kernel_rfl) ?_
  replace hS := hS.drew
  refine any_take (v := .agg #[.bool (rb u.num), .slice a1 ((words u.num.natAbs).length) ac1, .slice a2 ((words u.den).length) ac2, .bool (rb v.num), .slice a3 ((words v.num.natAbs).length) ac3, .slice a4 ((words v.den).length) ac4]) hA 0 rfl rfl rfl rfl (by kernel_rfl) (by kernel_rfl) (by kernel_rfl) (fun c a w h => hP c a _ _ w h) hS (fun w1 hS => does_loadS hS ExP_isS_26 rfl 2 rfl (cs := [.bool (rb u.num), .slice a1 ((words u.num.natAbs).length) ac1, .slice a2 ((words u.den).length) ac2, .bool (rb v.num), .slice a3 ((words v.num.natAbs).length) ac3, .slice a4 ((words v.den).length) ac4]) rfl rfl) ?_
  intro a hA
  refine any_take (v := .agg #[.bool (rb x.num), .slice u1 ((words x.num.natAbs).length) uc1, .slice u2 ((words x.den).length) uc2, .bool (rb y.num), .slice u3 ((words y.num.natAbs).length) uc3, .slice u4 ((words y.den).length) uc4]) hA 2 rfl rfl rfl rfl (by kernel_rfl) (by kernel_rfl) (by kernel_rfl) (fun c a w h => hP c a _ _ w h) hS (fun w1 hS => does_loadS hS ExP_isS_26 rfl 1 rfl (cs := [.bool (rb x.num), .slice u1 ((words x.num.natAbs).length) uc1, .slice u2 ((words x.den).length) uc2, .bool (rb y.num), .slice u3 ((words y.num.natAbs).length) uc3, .slice u4 ((words y.den).length) uc4]) rfl rfl) ?_
  intro a hA
  refine any_many (rs := [1, 4, 5]) (by kernel_rfl) (by simp) ⟨?_, ?_, ?_, trivial⟩
  · refine op_call hA 1 rfl rfl rfl rfl (enters_func  rfl rfl (fun w => by kernel_rfl)) (zspread_any (show Nm _ (Q6.rat u v) a1 ac1 a2 ac2 a3 ac3 a4 ac4 from ⟨⟨(hS.rd 7 rfl), ha.s1.nil, ha.s1.cap⟩, ⟨(hS.rd 6 rfl), ha.s2.nil, ha.s2.cap⟩, ⟨(hS.rd 5 rfl), ha.s3.nil, ha.s3.cap⟩, ⟨(hS.rd 4 rfl), ha.s4.nil, ha.s4.cap⟩⟩) hu hv) ?_
    rintro _ w78 ⟨p73_1, p73_c1, p73_2, p73_c2, p73_3, p73_c3, rfl, hs74, hs75, hs76, hb77⟩
    replace hS := hS.call hb77
    replace hS := hS.addR hs74.rd
    replace hS := hS.addR hs75.rd
    replace hS := hS.addR hs76.rd
    refine ⟨_, rfl, (hS.partD (.refl _) 3 rfl (.refl _)), ?_⟩
    intro a hA
    refine any_many (rs := [3, 4, 5]) (by kernel_rfl) (by simp) ⟨?_, ?_, ?_, trivial⟩
    · refine op_call hA 3 rfl rfl rfl rfl (enters_func  rfl rfl (fun w => by kernel_rfl)) (zspread_any (show Nm _ (Q6.rat x y) u1 uc1 u2 uc2 u3 uc3 u4 uc4 from ⟨⟨(hS.rd 6 rfl), hb.s1.nil, hb.s1.cap⟩, ⟨(hS.rd 5 rfl), hb.s2.nil, hb.s2.cap⟩, ⟨(hS.rd 4 rfl), hb.s3.nil, hb.s3.cap⟩, ⟨(hS.rd 3 rfl), hb.s4.nil, hb.s4.cap⟩⟩) hx hy) ?_
      rintro _ w84 ⟨p79_1, p79_c1, p79_2, p79_c2, p79_3, p79_c3, rfl, hs80, hs81, hs82, hb83⟩
      replace hS := hS.call hb83
      replace hS := hS.addR hs80.rd
      replace hS := hS.addR hs81.rd
      replace hS := hS.addR hs82.rd
      refine ⟨_, rfl, (hS.partD (.refl _) 6 rfl (.refl _)), ?_⟩
      intro a hA
      refine any_many (rs := [4, 5]) (by kernel_rfl) (by simp) ⟨?_, ?_, trivial⟩
      · refine op_new (vs := [.bool false, .slice none 0 0, .bool false, .slice none 0 0, .slice none 0 0]) (t := 48) hA hS 4 rfl rfl rfl rfl (fun g => .pointer (some ⟨g, 0, none⟩)) (does_alloc (z := .agg #[.bool false, .slice none 0 0, .bool false, .slice none 0 0, .slice none 0 0]) (by kernel_rfl) rfl) rfl ?_
        intro g85 w86 hS
        refine ⟨(hS.partD (.cons _ (.cons_cons _ (.cons_cons _ (.cons_cons _ .slnil)))) 6 rfl (.refl _)), ?_⟩
        intro a hA
        refine any_one (by kernel_rfl) (op_new (vs := [.bool false, .slice none 0 0, .bool false, .slice none 0 0, .slice none 0 0]) (t := 48) hA hS 5 rfl rfl rfl rfl (fun g => .pointer (some ⟨g, 0, none⟩)) (does_alloc (z := .agg #[.bool false, .slice none 0 0, .bool false, .slice none 0 0, .slice none 0 0]) (by kernel_rfl) rfl) rfl ?_)
        intro g87 w88 hS
        refine ⟨(hS.partD (.cons _ (.cons _ (.cons_cons _ (.cons_cons _ (.cons_cons _ .slnil))))) 6 rfl (.refl _)), ?_⟩
        intro a hA
        refine any_one (by kernel_rfl) (op_store (us := [.bool ((rb (spX u v))), .slice p73_1 ((words (spX u v).natAbs).length) p73_c1, .bool ((rb (spY u v))), .slice p73_2 ((words (spY u v).natAbs).length) p73_c2, .slice p73_3 ((words (spD u v)).length) p73_c3]) hA hS 6 rfl rfl rfl (sets_store (cs := [.bool ((rb (spX u v))), .slice p73_1 ((words (spX u v).natAbs).length) p73_c1, .bool ((rb (spY u v))), .slice p73_2 ((words (spY u v).natAbs).length) p73_c2, .slice p73_3 ((words (spD u v)).length) p73_c3]) rfl rfl rfl (by kernel_rfl) hS 1 rfl rfl rfl) 1 rfl rfl rfl rfl ?_)
        intro w89 hS
        refine ⟨(hS.partD (.cons _ (.cons _ (.cons_cons _ (.cons_cons _ (.cons_cons _ .slnil))))) 6 rfl (.refl _)), ?_⟩
        refine any_one (by kernel_rfl) (op_store (us := [.bool ((rb (spX x y))), .slice p79_1 ((words (spX x y).natAbs).length) p79_c1, .bool ((rb (spY x y))), .slice p79_2 ((words (spY x y).natAbs).length) p79_c2, .slice p79_3 ((words (spD x y)).length) p79_c3]) hA hS 7 rfl rfl rfl (sets_store (cs := [.bool ((rb (spX x y))), .slice p79_1 ((words (spX x y).natAbs).length) p79_c1, .bool ((rb (spY x y))), .slice p79_2 ((words (spY x y).natAbs).length) p79_c2, .slice p79_3 ((words (spD x y)).length) p79_c3]) rfl rfl rfl (by kernel_rfl) hS 0 rfl rfl rfl) 0 rfl rfl rfl rfl ?_)
        intro w90 hS
        refine ⟨(hS.partD (.cons _ (.cons _ (.cons_cons _ (.cons_cons _ (.cons_cons _ .slnil))))) 6 rfl (.refl _)), ?_⟩
        refine any_end (by kernel_rfl) ?_
        refine hJ58 _ _ ⟨g85, g87, p73_1, p73_c1, p73_2, p73_c2, p73_3, p73_c3, p79_1, p79_c1, p79_2, p79_c2, p79_3, p79_c3, hA.keep _ ⟨rfl, rfl, rfl, rfl, rfl, rfl, rfl, rfl, rfl, rfl, rfl, rfl, rfl, rfl, rfl, rfl, rfl, rfl, rfl, trivial⟩, ((hS.pickR [(p79_3, words (spD x y)), (p79_2, words (spY x y).natAbs), (p79_1, words (spX x y).natAbs), (p73_3, words (spD u v)), (p73_2, words (spY u v).natAbs), (p73_1, words (spX u v).natAbs), (u4, words y.den), (u3, words y.num.natAbs), (u2, words x.den), (u1, words x.num.natAbs), (a4, words v.den), (a3, words v.num.natAbs), (a2, words u.den), (a1, words u.num.natAbs)] ⟨⟨0, rfl⟩, ⟨⟨1, rfl⟩, ⟨⟨2, rfl⟩, ⟨⟨3, rfl⟩, ⟨⟨4, rfl⟩, ⟨⟨5, rfl⟩, ⟨⟨6, rfl⟩, ⟨⟨7, rfl⟩, ⟨⟨8, rfl⟩, ⟨⟨9, rfl⟩, ⟨⟨10, rfl⟩, ⟨⟨11, rfl⟩, ⟨⟨12, rfl⟩, ⟨⟨13, rfl⟩, trivial⟩⟩⟩⟩⟩⟩⟩⟩⟩⟩⟩⟩⟩⟩).pickL [(g87, [.bool ((rb (spX x y))), .slice p79_1 ((words (spX x y).natAbs).length) p79_c1, .bool ((rb (spY x y))), .slice p79_2 ((words (spY x y).natAbs).length) p79_c2, .slice p79_3 ((words (spD x y)).length) p79_c3]), (g85, [.bool ((rb (spX u v))), .slice p73_1 ((words (spX u v).natAbs).length) p73_c1, .bool ((rb (spY u v))), .slice p73_2 ((words (spY u v).natAbs).length) p73_c2, .slice p73_3 ((words (spD u v)).length) p73_c3]), (g8, [.bool (rb u.num), .slice a1 ((words u.num.natAbs).length) ac1, .slice a2 ((words u.den).length) ac2, .bool (rb v.num), .slice a3 ((words v.num.natAbs).length) ac3, .slice a4 ((words v.den).length) ac4, .bool (rb x.num), .slice u1 ((words x.num.natAbs).length) uc1, .slice u2 ((words x.den).length) uc2, .bool (rb y.num), .slice u3 ((words y.num.natAbs).length) uc3, .slice u4 ((words y.den).length) uc4]), (g4, [.bool (rb x.num), .slice u1 ((words x.num.natAbs).length) uc1, .slice u2 ((words x.den).length) uc2, .bool (rb y.num), .slice u3 ((words y.num.natAbs).length) uc3, .slice u4 ((words y.den).length) uc4]), (g2, [.bool (rb u.num), .slice a1 ((words u.num.natAbs).length) ac1, .slice a2 ((words u.den).length) ac2, .bool (rb v.num), .slice a3 ((words v.num.natAbs).length) ac3, .slice a4 ((words v.den).length) ac4])] [0, 1, 2, 3, 4] rfl (by decide)), hs82.nil, hs82.cap, hs81.nil, hs81.cap, hs80.nil, hs80.cap, hs76.nil, hs76.cap, hs75.nil, hs75.cap, hs74.nil, hs74.cap⟩
      · refine op_new (vs := [.bool false, .slice none 0 0, .bool false, .slice none 0 0, .slice none 0 0]) (t := 48) hA hS 5 rfl rfl rfl rfl (fun g => .pointer (some ⟨g, 0, none⟩)) (does_alloc (z := .agg #[.bool false, .slice none 0 0, .bool false, .slice none 0 0, .slice none 0 0]) (by kernel_rfl) rfl) rfl ?_
        intro g91 w92 hS
        refine ⟨(hS.partD (.cons _ (.cons_cons _ (.cons_cons _ (.cons_cons _ .slnil)))) 6 rfl (.refl _)), ?_⟩
        intro a hA
        refine any_one (by kernel_rfl) (op_new (vs := [.bool false, .slice none 0 0, .bool false, .slice none 0 0, .slice none 0 0]) (t := 48) hA hS 4 rfl rfl rfl rfl (fun g => .pointer (some ⟨g, 0, none⟩)) (does_alloc (z := .agg #[.bool false, .slice none 0 0, .bool false, .slice none 0 0, .slice none 0 0]) (by kernel_rfl) rfl) rfl ?_)
        intro g93 w94 hS
        refine ⟨(hS.partD (.cons _ (.cons _ (.cons_cons _ (.cons_cons _ (.cons_cons _ .slnil))))) 6 rfl (.refl _)), ?_⟩
        intro a hA
        refine any_one (by kernel_rfl) (op_store (us := [.bool ((rb (spX u v))), .slice p73_1 ((words (spX u v).natAbs).length) p73_c1, .bool ((rb (spY u v))), .slice p73_2 ((words (spY u v).natAbs).length) p73_c2, .slice p73_3 ((words (spD u v)).length) p73_c3]) hA hS 6 rfl rfl rfl (sets_store (cs := [.bool ((rb (spX u v))), .slice p73_1 ((words (spX u v).natAbs).length) p73_c1, .bool ((rb (spY u v))), .slice p73_2 ((words (spY u v).natAbs).length) p73_c2, .slice p73_3 ((words (spD u v)).length) p73_c3]) rfl rfl rfl (by kernel_rfl) hS 0 rfl rfl rfl) 0 rfl rfl rfl rfl ?_)
        intro w95 hS
        refine ⟨(hS.partD (.cons _ (.cons _ (.cons_cons _ (.cons_cons _ (.cons_cons _ .slnil))))) 6 rfl (.refl _)), ?_⟩
        refine any_one (by kernel_rfl) (op_store (us := [.bool ((rb (spX x y))), .slice p79_1 ((words (spX x y).natAbs).length) p79_c1, .bool ((rb (spY x y))), .slice p79_2 ((words (spY x y).natAbs).length) p79_c2, .slice p79_3 ((words (spD x y)).length) p79_c3]) hA hS 7 rfl rfl rfl (sets_store (cs := [.bool ((rb (spX x y))), .slice p79_1 ((words (spX x y).natAbs).length) p79_c1, .bool ((rb (spY x y))), .slice p79_2 ((words (spY x y).natAbs).length) p79_c2, .slice p79_3 ((words (spD x y)).length) p79_c3]) rfl rfl rfl (by kernel_rfl) hS 1 rfl rfl rfl) 1 rfl rfl rfl rfl ?_)
        intro w96 hS
        refine ⟨(hS.partD (.cons _ (.cons _ (.cons_cons _ (.cons_cons _ (.cons_cons _ .slnil))))) 6 rfl (.refl _)), ?_⟩
        refine any_end (by kernel_rfl) ?_
        refine hJ58 _ _ ⟨g93, g91, p73_1, p73_c1, p73_2, p73_c2, p73_3, p73_c3, p79_1, p79_c1, p79_2, p79_c2, p79_3, p79_c3, hA.keep _ ⟨rfl, rfl, rfl, rfl, rfl, rfl, rfl, rfl, rfl, rfl, rfl, rfl, rfl, rfl, rfl, rfl, rfl, rfl, rfl, trivial⟩, ((hS.pickR [(p79_3, words (spD x y)), (p79_2, words (spY x y).natAbs), (p79_1, words (spX x y).natAbs), (p73_3, words (spD u v)), (p73_2, words (spY u v).natAbs), (p73_1, words (spX u v).natAbs), (u4, words y.den), (u3, words y.num.natAbs), (u2, words x.den), (u1, words x.num.natAbs), (a4, words v.den), (a3, words v.num.natAbs), (a2, words u.den), (a1, words u.num.natAbs)] ⟨⟨0, rfl⟩, ⟨⟨1, rfl⟩, ⟨⟨2, rfl⟩, ⟨⟨3, rfl⟩, ⟨⟨4, rfl⟩, ⟨⟨5, rfl⟩, ⟨⟨6, rfl⟩, ⟨⟨7, rfl⟩, ⟨⟨8, rfl⟩, ⟨⟨9, rfl⟩, ⟨⟨10, rfl⟩, ⟨⟨11, rfl⟩, ⟨⟨12, rfl⟩, ⟨⟨13, rfl⟩, trivial⟩⟩⟩⟩⟩⟩⟩⟩⟩⟩⟩⟩⟩⟩).pickL [(g91, [.bool ((rb (spX x y))), .slice p79_1 ((words (spX x y).natAbs).length) p79_c1, .bool ((rb (spY x y))), .slice p79_2 ((words (spY x y).natAbs).length) p79_c2, .slice p79_3 ((words (spD x y)).length) p79_c3]), (g93, [.bool ((rb (spX u v))), .slice p73_1 ((words (spX u v).natAbs).length) p73_c1, .bool ((rb (spY u v))), .slice p73_2 ((words (spY u v).natAbs).length) p73_c2, .slice p73_3 ((words (spD u v)).length) p73_c3]), (g8, [.bool (rb u.num), .slice a1 ((words u.num.natAbs).length) ac1, .slice a2 ((words u.den).length) ac2, .bool (rb v.num), .slice a3 ((words v.num.natAbs).length) ac3, .slice a4 ((words v.den).length) ac4, .bool (rb x.num), .slice u1 ((words x.num.natAbs).length) uc1, .slice u2 ((words x.den).length) uc2, .bool (rb y.num), .slice u3 ((words y.num.natAbs).length) uc3, .slice u4 ((words y.den).length) uc4]), (g4, [.bool (rb x.num), .slice u1 ((words x.num.natAbs).length) uc1, .slice u2 ((words x.den).length) uc2, .bool (rb y.num), .slice u3 ((words y.num.natAbs).length) uc3, .slice u4 ((words y.den).length) uc4]), (g2, [.bool (rb u.num), .slice a1 ((words u.num.natAbs).length) ac1, .slice a2 ((words u.den).length) ac2, .bool (rb v.num), .slice a3 ((words v.num.natAbs).length) ac3, .slice a4 ((words v.den).length) ac4])] [1, 0, 2, 3, 4] rfl (by decide)), hs82.nil, hs82.cap, hs81.nil, hs81.cap, hs80.nil, hs80.cap, hs76.nil, hs76.cap, hs75.nil, hs75.cap, hs74.nil, hs74.cap⟩
    · refine op_new (vs := [.bool false, .slice none 0 0, .bool false, .slice none 0 0, .slice none 0 0]) (t := 48) hA hS 4 rfl rfl rfl rfl (fun g => .pointer (some ⟨g, 0, none⟩)) (does_alloc (z := .agg #[.bool false, .slice none 0 0, .bool false, .slice none 0 0, .slice none 0 0]) (by kernel_rfl) rfl) rfl ?_
      intro g97 w98 hS
      refine ⟨(hS.partD (.cons _ (.cons_cons _ (.cons_cons _ (.cons_cons _ .slnil)))) 3 rfl (.refl _)), ?_⟩
      intro a hA
      refine any_many (rs := [3, 5]) (by kernel_rfl) (by simp) ⟨?_, ?_, trivial⟩
      · refine op_call hA 3 rfl rfl rfl rfl (enters_func  rfl rfl (fun w => by kernel_rfl)) (zspread_any (show Nm _ (Q6.rat x y) u1 uc1 u2 uc2 u3 uc3 u4 uc4 from ⟨⟨(hS.rd 6 rfl), hb.s1.nil, hb.s1.cap⟩, ⟨(hS.rd 5 rfl), hb.s2.nil, hb.s2.cap⟩, ⟨(hS.rd 4 rfl), hb.s3.nil, hb.s3.cap⟩, ⟨(hS.rd 3 rfl), hb.s4.nil, hb.s4.cap⟩⟩) hx hy) ?_
        rintro _ w104 ⟨p99_1, p99_c1, p99_2, p99_c2, p99_3, p99_c3, rfl, hs100, hs101, hs102, hb103⟩
        replace hS := hS.call hb103
        replace hS := hS.addR hs100.rd
        replace hS := hS.addR hs101.rd
        replace hS := hS.addR hs102.rd
        refine ⟨_, rfl, (hS.partD (.cons _ (.cons_cons _ (.cons_cons _ (.cons_cons _ .slnil)))) 6 rfl (.refl _)), ?_⟩
        intro a hA
        refine any_one (by kernel_rfl) (op_new (vs := [.bool false, .slice none 0 0, .bool false, .slice none 0 0, .slice none 0 0]) (t := 48) hA hS 5 rfl rfl rfl rfl (fun g => .pointer (some ⟨g, 0, none⟩)) (does_alloc (z := .agg #[.bool false, .slice none 0 0, .bool false, .slice none 0 0, .slice none 0 0]) (by kernel_rfl) rfl) rfl ?_)
        intro g105 w106 hS
        refine ⟨(hS.partD (.cons _ (.cons _ (.cons_cons _ (.cons_cons _ (.cons_cons _ .slnil))))) 6 rfl (.refl _)), ?_⟩
        intro a hA
        refine any_one (by kernel_rfl) (op_store (us := [.bool ((rb (spX u v))), .slice p73_1 ((words (spX u v).natAbs).length) p73_c1, .bool ((rb (spY u v))), .slice p73_2 ((words (spY u v).natAbs).length) p73_c2, .slice p73_3 ((words (spD u v)).length) p73_c3]) hA hS 6 rfl rfl rfl (sets_store (cs := [.bool ((rb (spX u v))), .slice p73_1 ((words (spX u v).natAbs).length) p73_c1, .bool ((rb (spY u v))), .slice p73_2 ((words (spY u v).natAbs).length) p73_c2, .slice p73_3 ((words (spD u v)).length) p73_c3]) rfl rfl rfl (by kernel_rfl) hS 1 rfl rfl rfl) 1 rfl rfl rfl rfl ?_)
        intro w107 hS
        refine ⟨(hS.partD (.cons _ (.cons _ (.cons_cons _ (.cons_cons _ (.cons_cons _ .slnil))))) 6 rfl (.refl _)), ?_⟩
        refine any_one (by kernel_rfl) (op_store (us := [.bool ((rb (spX x y))), .slice p99_1 ((words (spX x y).natAbs).length) p99_c1, .bool ((rb (spY x y))), .slice p99_2 ((words (spY x y).natAbs).length) p99_c2, .slice p99_3 ((words (spD x y)).length) p99_c3]) hA hS 7 rfl rfl rfl (sets_store (cs := [.bool ((rb (spX x y))), .slice p99_1 ((words (spX x y).natAbs).length) p99_c1, .bool ((rb (spY x y))), .slice p99_2 ((words (spY x y).natAbs).length) p99_c2, .slice p99_3 ((words (spD x y)).length) p99_c3]) rfl rfl rfl (by kernel_rfl) hS 0 rfl rfl rfl) 0 rfl rfl rfl rfl ?_)
        intro w108 hS
        refine ⟨(hS.partD (.cons _ (.cons _ (.cons_cons _ (.cons_cons _ (.cons_cons _ .slnil))))) 6 rfl (.refl _)), ?_⟩
        refine any_end (by kernel_rfl) ?_
        refine hJ58 _ _ ⟨g97, g105, p73_1, p73_c1, p73_2, p73_c2, p73_3, p73_c3, p99_1, p99_c1, p99_2, p99_c2, p99_3, p99_c3, hA.keep _ ⟨rfl, rfl, rfl, rfl, rfl, rfl, rfl, rfl, rfl, rfl, rfl, rfl, rfl, rfl, rfl, rfl, rfl, rfl, rfl, trivial⟩, ((hS.pickR [(p99_3, words (spD x y)), (p99_2, words (spY x y).natAbs), (p99_1, words (spX x y).natAbs), (p73_3, words (spD u v)), (p73_2, words (spY u v).natAbs), (p73_1, words (spX u v).natAbs), (u4, words y.den), (u3, words y.num.natAbs), (u2, words x.den), (u1, words x.num.natAbs), (a4, words v.den), (a3, words v.num.natAbs), (a2, words u.den), (a1, words u.num.natAbs)] ⟨⟨0, rfl⟩, ⟨⟨1, rfl⟩, ⟨⟨2, rfl⟩, ⟨⟨3, rfl⟩, ⟨⟨4, rfl⟩, ⟨⟨5, rfl⟩, ⟨⟨6, rfl⟩, ⟨⟨7, rfl⟩, ⟨⟨8, rfl⟩, ⟨⟨9, rfl⟩, ⟨⟨10, rfl⟩, ⟨⟨11, rfl⟩, ⟨⟨12, rfl⟩, ⟨⟨13, rfl⟩, trivial⟩⟩⟩⟩⟩⟩⟩⟩⟩⟩⟩⟩⟩⟩).pickL [(g105, [.bool ((rb (spX x y))), .slice p99_1 ((words (spX x y).natAbs).length) p99_c1, .bool ((rb (spY x y))), .slice p99_2 ((words (spY x y).natAbs).length) p99_c2, .slice p99_3 ((words (spD x y)).length) p99_c3]), (g97, [.bool ((rb (spX u v))), .slice p73_1 ((words (spX u v).natAbs).length) p73_c1, .bool ((rb (spY u v))), .slice p73_2 ((words (spY u v).natAbs).length) p73_c2, .slice p73_3 ((words (spD u v)).length) p73_c3]), (g8, [.bool (rb u.num), .slice a1 ((words u.num.natAbs).length) ac1, .slice a2 ((words u.den).length) ac2, .bool (rb v.num), .slice a3 ((words v.num.natAbs).length) ac3, .slice a4 ((words v.den).length) ac4, .bool (rb x.num), .slice u1 ((words x.num.natAbs).length) uc1, .slice u2 ((words x.den).length) uc2, .bool (rb y.num), .slice u3 ((words y.num.natAbs).length) uc3, .slice u4 ((words y.den).length) uc4]), (g4, [.bool (rb x.num), .slice u1 ((words x.num.natAbs).length) uc1, .slice u2 ((words x.den).length) uc2, .bool (rb y.num), .slice u3 ((words y.num.natAbs).length) uc3, .slice u4 ((words y.den).length) uc4]), (g2, [.bool (rb u.num), .slice a1 ((words u.num.natAbs).length) ac1, .slice a2 ((words u.den).length) ac2, .bool (rb v.num), .slice a3 ((words v.num.natAbs).length) ac3, .slice a4 ((words v.den).length) ac4])] [0, 1, 2, 3, 4] rfl (by decide)), hs102.nil, hs102.cap, hs101.nil, hs101.cap, hs100.nil, hs100.cap, hs76.nil, hs76.cap, hs75.nil, hs75.cap, hs74.nil, hs74.cap⟩
      · refine op_new (vs := [.bool false, .slice none 0 0, .bool false, .slice none 0 0, .slice none 0 0]) (t := 48) hA hS 5 rfl rfl rfl rfl (fun g => .pointer (some ⟨g, 0, none⟩)) (does_alloc (z := .agg #[.bool false, .slice none 0 0, .bool false, .slice none 0 0, .slice none 0 0]) (by kernel_rfl) rfl) rfl ?_
        intro g109 w110 hS
        refine ⟨(hS.partD (.cons _ (.cons _ (.cons_cons _ (.cons_cons _ (.cons_cons _ .slnil))))) 3 rfl (.refl _)), ?_⟩
        intro a hA
        refine any_one (by kernel_rfl) (op_call hA 3 rfl rfl rfl rfl (enters_func  rfl rfl (fun w => by kernel_rfl)) (zspread_any (show Nm _ (Q6.rat x y) u1 uc1 u2 uc2 u3 uc3 u4 uc4 from ⟨⟨(hS.rd 6 rfl), hb.s1.nil, hb.s1.cap⟩, ⟨(hS.rd 5 rfl), hb.s2.nil, hb.s2.cap⟩, ⟨(hS.rd 4 rfl), hb.s3.nil, hb.s3.cap⟩, ⟨(hS.rd 3 rfl), hb.s4.nil, hb.s4.cap⟩⟩) hx hy) ?_)
        rintro _ w116 ⟨p111_1, p111_c1, p111_2, p111_c2, p111_3, p111_c3, rfl, hs112, hs113, hs114, hb115⟩
        replace hS := hS.call hb115
        replace hS := hS.addR hs112.rd
        replace hS := hS.addR hs113.rd
        replace hS := hS.addR hs114.rd
        refine ⟨_, rfl, (hS.partD (.cons _ (.cons _ (.cons_cons _ (.cons_cons _ (.cons_cons _ .slnil))))) 6 rfl (.refl _)), ?_⟩
        intro a hA
        refine any_one (by kernel_rfl) (op_store (us := [.bool ((rb (spX u v))), .slice p73_1 ((words (spX u v).natAbs).length) p73_c1, .bool ((rb (spY u v))), .slice p73_2 ((words (spY u v).natAbs).length) p73_c2, .slice p73_3 ((words (spD u v)).length) p73_c3]) hA hS 6 rfl rfl rfl (sets_store (cs := [.bool ((rb (spX u v))), .slice p73_1 ((words (spX u v).natAbs).length) p73_c1, .bool ((rb (spY u v))), .slice p73_2 ((words (spY u v).natAbs).length) p73_c2, .slice p73_3 ((words (spD u v)).length) p73_c3]) rfl rfl rfl (by kernel_rfl) hS 1 rfl rfl rfl) 1 rfl rfl rfl rfl ?_)
        intro w117 hS
        refine ⟨(hS.partD (.cons _ (.cons _ (.cons_cons _ (.cons_cons _ (.cons_cons _ .slnil))))) 6 rfl (.refl _)), ?_⟩
        refine any_one (by kernel_rfl) (op_store (us := [.bool ((rb (spX x y))), .slice p111_1 ((words (spX x y).natAbs).length) p111_c1, .bool ((rb (spY x y))), .slice p111_2 ((words (spY x y).natAbs).length) p111_c2, .slice p111_3 ((words (spD x y)).length) p111_c3]) hA hS 7 rfl rfl rfl (sets_store (cs := [.bool ((rb (spX x y))), .slice p111_1 ((words (spX x y).natAbs).length) p111_c1, .bool ((rb (spY x y))), .slice p111_2 ((words (spY x y).natAbs).length) p111_c2, .slice p111_3 ((words (spD x y)).length) p111_c3]) rfl rfl rfl (by kernel_rfl) hS 0 rfl rfl rfl) 0 rfl rfl rfl rfl ?_)
        intro w118 hS
        refine ⟨(hS.partD (.cons _ (.cons _ (.cons_cons _ (.cons_cons _ (.cons_cons _ .slnil))))) 6 rfl (.refl _)), ?_⟩
        refine any_end (by kernel_rfl) ?_
        refine hJ58 _ _ ⟨g97, g109, p73_1, p73_c1, p73_2, p73_c2, p73_3, p73_c3, p111_1, p111_c1, p111_2, p111_c2, p111_3, p111_c3, hA.keep _ ⟨rfl, rfl, rfl, rfl, rfl, rfl, rfl, rfl, rfl, rfl, rfl, rfl, rfl, rfl, rfl, rfl, rfl, rfl, rfl, trivial⟩, ((hS.pickR [(p111_3, words (spD x y)), (p111_2, words (spY x y).natAbs), (p111_1, words (spX x y).natAbs), (p73_3, words (spD u v)), (p73_2, words (spY u v).natAbs), (p73_1, words (spX u v).natAbs), (u4, words y.den), (u3, words y.num.natAbs), (u2, words x.den), (u1, words x.num.natAbs), (a4, words v.den), (a3, words v.num.natAbs), (a2, words u.den), (a1, words u.num.natAbs)] ⟨⟨0, rfl⟩, ⟨⟨1, rfl⟩, ⟨⟨2, rfl⟩, ⟨⟨3, rfl⟩, ⟨⟨4, rfl⟩, ⟨⟨5, rfl⟩, ⟨⟨6, rfl⟩, ⟨⟨7, rfl⟩, ⟨⟨8, rfl⟩, ⟨⟨9, rfl⟩, ⟨⟨10, rfl⟩, ⟨⟨11, rfl⟩, ⟨⟨12, rfl⟩, ⟨⟨13, rfl⟩, trivial⟩⟩⟩⟩⟩⟩⟩⟩⟩⟩⟩⟩⟩⟩).pickL [(g109, [.bool ((rb (spX x y))), .slice p111_1 ((words (spX x y).natAbs).length) p111_c1, .bool ((rb (spY x y))), .slice p111_2 ((words (spY x y).natAbs).length) p111_c2, .slice p111_3 ((words (spD x y)).length) p111_c3]), (g97, [.bool ((rb (spX u v))), .slice p73_1 ((words (spX u v).natAbs).length) p73_c1, .bool ((rb (spY u v))), .slice p73_2 ((words (spY u v).natAbs).length) p73_c2, .slice p73_3 ((words (spD u v)).length) p73_c3]), (g8, [.bool (rb u.num), .slice a1 ((words u.num.natAbs).length) ac1, .slice a2 ((words u.den).length) ac2, .bool (rb v.num), .slice a3 ((words v.num.natAbs).length) ac3, .slice a4 ((words v.den).length) ac4, .bool (rb x.num), .slice u1 ((words x.num.natAbs).length) uc1, .slice u2 ((words x.den).length) uc2, .bool (rb y.num), .slice u3 ((words y.num.natAbs).length) uc3, .slice u4 ((words y.den).length) uc4]), (g4, [.bool (rb x.num), .slice u1 ((words x.num.natAbs).length) uc1, .slice u2 ((words x.den).length) uc2, .bool (rb y.num), .slice u3 ((words y.num.natAbs).length) uc3, .slice u4 ((words y.den).length) uc4]), (g2, [.bool (rb u.num), .slice a1 ((words u.num.natAbs).length) ac1, .slice a2 ((words u.den).length) ac2, .bool (rb v.num), .slice a3 ((words v.num.natAbs).length) ac3, .slice a4 ((words v.den).length) ac4])] [0, 1, 2, 3, 4] rfl (by decide)), hs114.nil, hs114.cap, hs113.nil, hs113.cap, hs112.nil, hs112.cap, hs76.nil, hs76.cap, hs75.nil, hs75.cap, hs74.nil, hs74.cap⟩
    · refine op_new (vs := [.bool false, .slice none 0 0, .bool false, .slice none 0 0, .slice none 0 0]) (t := 48) hA hS 5 rfl rfl rfl rfl (fun g => .pointer (some ⟨g, 0, none⟩)) (does_alloc (z := .agg #[.bool false, .slice none 0 0, .bool false, .slice none 0 0, .slice none 0 0]) (by kernel_rfl) rfl) rfl ?_
      intro g119 w120 hS
      refine ⟨(hS.partD (.cons _ (.cons_cons _ (.cons_cons _ (.cons_cons _ .slnil)))) 3 rfl (.refl _)), ?_⟩
      intro a hA
      refine any_many (rs := [3, 4]) (by kernel_rfl) (by simp) ⟨?_, ?_, trivial⟩
      · refine op_call hA 3 rfl rfl rfl rfl (enters_func  rfl rfl (fun w => by kernel_rfl)) (zspread_any (show Nm _ (Q6.rat x y) u1 uc1 u2 uc2 u3 uc3 u4 uc4 from ⟨⟨(hS.rd 6 rfl), hb.s1.nil, hb.s1.cap⟩, ⟨(hS.rd 5 rfl), hb.s2.nil, hb.s2.cap⟩, ⟨(hS.rd 4 rfl), hb.s3.nil, hb.s3.cap⟩, ⟨(hS.rd 3 rfl), hb.s4.nil, hb.s4.cap⟩⟩) hx hy) ?_
        rintro _ w126 ⟨p121_1, p121_c1, p121_2, p121_c2, p121_3, p121_c3, rfl, hs122, hs123, hs124, hb125⟩
        replace hS := hS.call hb125
        replace hS := hS.addR hs122.rd
        replace hS := hS.addR hs123.rd
        replace hS := hS.addR hs124.rd
        refine ⟨_, rfl, (hS.partD (.cons _ (.cons_cons _ (.cons_cons _ (.cons_cons _ .slnil)))) 6 rfl (.refl _)), ?_⟩
        intro a hA
        refine any_one (by kernel_rfl) (op_new (vs := [.bool false, .slice none 0 0, .bool false, .slice none 0 0, .slice none 0 0]) (t := 48) hA hS 4 rfl rfl rfl rfl (fun g => .pointer (some ⟨g, 0, none⟩)) (does_alloc (z := .agg #[.bool false, .slice none 0 0, .bool false, .slice none 0 0, .slice none 0 0]) (by kernel_rfl) rfl) rfl ?_)
        intro g127 w128 hS
        refine ⟨(hS.partD (.cons _ (.cons _ (.cons_cons _ (.cons_cons _ (.cons_cons _ .slnil))))) 6 rfl (.refl _)), ?_⟩
        intro a hA
        refine any_one (by kernel_rfl) (op_store (us := [.bool ((rb (spX u v))), .slice p73_1 ((words (spX u v).natAbs).length) p73_c1, .bool ((rb (spY u v))), .slice p73_2 ((words (spY u v).natAbs).length) p73_c2, .slice p73_3 ((words (spD u v)).length) p73_c3]) hA hS 6 rfl rfl rfl (sets_store (cs := [.bool ((rb (spX u v))), .slice p73_1 ((words (spX u v).natAbs).length) p73_c1, .bool ((rb (spY u v))), .slice p73_2 ((words (spY u v).natAbs).length) p73_c2, .slice p73_3 ((words (spD u v)).length) p73_c3]) rfl rfl rfl (by kernel_rfl) hS 0 rfl rfl rfl) 0 rfl rfl rfl rfl ?_)
        intro w129 hS
        refine ⟨(hS.partD (.cons _ (.cons _ (.cons_cons _ (.cons_cons _ (.cons_cons _ .slnil))))) 6 rfl (.refl _)), ?_⟩
        refine any_one (by kernel_rfl) (op_store (us := [.bool ((rb (spX x y))), .slice p121_1 ((words (spX x y).natAbs).length) p121_c1, .bool ((rb (spY x y))), .slice p121_2 ((words (spY x y).natAbs).length) p121_c2, .slice p121_3 ((words (spD x y)).length) p121_c3]) hA hS 7 rfl rfl rfl (sets_store (cs := [.bool ((rb (spX x y))), .slice p121_1 ((words (spX x y).natAbs).length) p121_c1, .bool ((rb (spY x y))), .slice p121_2 ((words (spY x y).natAbs).length) p121_c2, .slice p121_3 ((words (spD x y)).length) p121_c3]) rfl rfl rfl (by kernel_rfl) hS 1 rfl rfl rfl) 1 rfl rfl rfl rfl ?_)
        intro w130 hS
        refine ⟨(hS.partD (.cons _ (.cons _ (.cons_cons _ (.cons_cons _ (.cons_cons _ .slnil))))) 6 rfl (.refl _)), ?_⟩
        refine any_end (by kernel_rfl) ?_
        refine hJ58 _ _ ⟨g127, g119, p73_1, p73_c1, p73_2, p73_c2, p73_3, p73_c3, p121_1, p121_c1, p121_2, p121_c2, p121_3, p121_c3, hA.keep _ ⟨rfl, rfl, rfl, rfl, rfl, rfl, rfl, rfl, rfl, rfl, rfl, rfl, rfl, rfl, rfl, rfl, rfl, rfl, rfl, trivial⟩, ((hS.pickR [(p121_3, words (spD x y)), (p121_2, words (spY x y).natAbs), (p121_1, words (spX x y).natAbs), (p73_3, words (spD u v)), (p73_2, words (spY u v).natAbs), (p73_1, words (spX u v).natAbs), (u4, words y.den), (u3, words y.num.natAbs), (u2, words x.den), (u1, words x.num.natAbs), (a4, words v.den), (a3, words v.num.natAbs), (a2, words u.den), (a1, words u.num.natAbs)] ⟨⟨0, rfl⟩, ⟨⟨1, rfl⟩, ⟨⟨2, rfl⟩, ⟨⟨3, rfl⟩, ⟨⟨4, rfl⟩, ⟨⟨5, rfl⟩, ⟨⟨6, rfl⟩, ⟨⟨7, rfl⟩, ⟨⟨8, rfl⟩, ⟨⟨9, rfl⟩, ⟨⟨10, rfl⟩, ⟨⟨11, rfl⟩, ⟨⟨12, rfl⟩, ⟨⟨13, rfl⟩, trivial⟩⟩⟩⟩⟩⟩⟩⟩⟩⟩⟩⟩⟩⟩).pickL [(g119, [.bool ((rb (spX x y))), .slice p121_1 ((words (spX x y).natAbs).length) p121_c1, .bool ((rb (spY x y))), .slice p121_2 ((words (spY x y).natAbs).length) p121_c2, .slice p121_3 ((words (spD x y)).length) p121_c3]), (g127, [.bool ((rb (spX u v))), .slice p73_1 ((words (spX u v).natAbs).length) p73_c1, .bool ((rb (spY u v))), .slice p73_2 ((words (spY u v).natAbs).length) p73_c2, .slice p73_3 ((words (spD u v)).length) p73_c3]), (g8, [.bool (rb u.num), .slice a1 ((words u.num.natAbs).length) ac1, .slice a2 ((words u.den).length) ac2, .bool (rb v.num), .slice a3 ((words v.num.natAbs).length) ac3, .slice a4 ((words v.den).length) ac4, .bool (rb x.num), .slice u1 ((words x.num.natAbs).length) uc1, .slice u2 ((words x.den).length) uc2, .bool (rb y.num), .slice u3 ((words y.num.natAbs).length) uc3, .slice u4 ((words y.den).length) uc4]), (g4, [.bool (rb x.num), .slice u1 ((words x.num.natAbs).length) uc1, .slice u2 ((words x.den).length) uc2, .bool (rb y.num), .slice u3 ((words y.num.natAbs).length) uc3, .slice u4 ((words y.den).length) uc4]), (g2, [.bool (rb u.num), .slice a1 ((words u.num.natAbs).length) ac1, .slice a2 ((words u.den).length) ac2, .bool (rb v.num), .slice a3 ((words v.num.natAbs).length) ac3, .slice a4 ((words v.den).length) ac4])] [1, 0, 2, 3, 4] rfl (by decide)), hs124.nil, hs124.cap, hs123.nil, hs123.cap, hs122.nil, hs122.cap, hs76.nil, hs76.cap, hs75.nil, hs75.cap, hs74.nil, hs74.cap⟩
      · refine op_new (vs := [.bool false, .slice none 0 0, .bool false, .slice none 0 0, .slice none 0 0]) (t := 48) hA hS 4 rfl rfl rfl rfl (fun g => .pointer (some ⟨g, 0, none⟩)) (does_alloc (z := .agg #[.bool false, .slice none 0 0, .bool false, .slice none 0 0, .slice none 0 0]) (by kernel_rfl) rfl) rfl ?_
        intro g131 w132 hS
        refine ⟨(hS.partD (.cons _ (.cons _ (.cons_cons _ (.cons_cons _ (.cons_cons _ .slnil))))) 3 rfl (.refl _)), ?_⟩
        intro a hA
        refine any_one (by kernel_rfl) (op_call hA 3 rfl rfl rfl rfl (enters_func  rfl rfl (fun w => by kernel_rfl)) (zspread_any (show Nm _ (Q6.rat x y) u1 uc1 u2 uc2 u3 uc3 u4 uc4 from ⟨⟨(hS.rd 6 rfl), hb.s1.nil, hb.s1.cap⟩, ⟨(hS.rd 5 rfl), hb.s2.nil, hb.s2.cap⟩, ⟨(hS.rd 4 rfl), hb.s3.nil, hb.s3.cap⟩, ⟨(hS.rd 3 rfl), hb.s4.nil, hb.s4.cap⟩⟩) hx hy) ?_)
        rintro _ w138 ⟨p133_1, p133_c1, p133_2, p133_c2, p133_3, p133_c3, rfl, hs134, hs135, hs136, hb137⟩
        replace hS := hS.call hb137
        replace hS := hS.addR hs134.rd
        replace hS := hS.addR hs135.rd
        replace hS := hS.addR hs136.rd
        refine ⟨_, rfl, (hS.partD (.cons _ (.cons _ (.cons_cons _ (.cons_cons _ (.cons_cons _ .slnil))))) 6 rfl (.refl _)), ?_⟩
        intro a hA
        refine any_one (by kernel_rfl) (op_store (us := [.bool ((rb (spX u v))), .slice p73_1 ((words (spX u v).natAbs).length) p73_c1, .bool ((rb (spY u v))), .slice p73_2 ((words (spY u v).natAbs).length) p73_c2, .slice p73_3 ((words (spD u v)).length) p73_c3]) hA hS 6 rfl rfl rfl (sets_store (cs := [.bool ((rb (spX u v))), .slice p73_1 ((words (spX u v).natAbs).length) p73_c1, .bool ((rb (spY u v))), .slice p73_2 ((words (spY u v).natAbs).length) p73_c2, .slice p73_3 ((words (spD u v)).length) p73_c3]) rfl rfl rfl (by kernel_rfl) hS 0 rfl rfl rfl) 0 rfl rfl rfl rfl ?_)
        intro w139 hS
        refine ⟨(hS.partD (.cons _ (.cons _ (.cons_cons _ (.cons_cons _ (.cons_cons _ .slnil))))) 6 rfl (.refl _)), ?_⟩
        refine any_one (by kernel_rfl) (op_store (us := [.bool ((rb (spX x y))), .slice p133_1 ((words (spX x y).natAbs).length) p133_c1, .bool ((rb (spY x y))), .slice p133_2 ((words (spY x y).natAbs).length) p133_c2, .slice p133_3 ((words (spD x y)).length) p133_c3]) hA hS 7 rfl rfl rfl (sets_store (cs := [.bool ((rb (spX x y))), .slice p133_1 ((words (spX x y).natAbs).length) p133_c1, .bool ((rb (spY x y))), .slice p133_2 ((words (spY x y).natAbs).length) p133_c2, .slice p133_3 ((words (spD x y)).length) p133_c3]) rfl rfl rfl (by kernel_rfl) hS 1 rfl rfl rfl) 1 rfl rfl rfl rfl ?_)
        intro w140 hS
        refine ⟨(hS.partD (.cons _ (.cons _ (.cons_cons _ (.cons_cons _ (.cons_cons _ .slnil))))) 6 rfl (.refl _)), ?_⟩
        refine any_end (by kernel_rfl) ?_
        refine hJ58 _ _ ⟨g131, g119, p73_1, p73_c1, p73_2, p73_c2, p73_3, p73_c3, p133_1, p133_c1, p133_2, p133_c2, p133_3, p133_c3, hA.keep _ ⟨rfl, rfl, rfl, rfl, rfl, rfl, rfl, rfl, rfl, rfl, rfl, rfl, rfl, rfl, rfl, rfl, rfl, rfl, rfl, trivial⟩, ((hS.pickR [(p133_3, words (spD x y)), (p133_2, words (spY x y).natAbs), (p133_1, words (spX x y).natAbs), (p73_3, words (spD u v)), (p73_2, words (spY u v).natAbs), (p73_1, words (spX u v).natAbs), (u4, words y.den), (u3, words y.num.natAbs), (u2, words x.den), (u1, words x.num.natAbs), (a4, words v.den), (a3, words v.num.natAbs), (a2, words u.den), (a1, words u.num.natAbs)] ⟨⟨0, rfl⟩, ⟨⟨1, rfl⟩, ⟨⟨2, rfl⟩, ⟨⟨3, rfl⟩, ⟨⟨4, rfl⟩, ⟨⟨5, rfl⟩, ⟨⟨6, rfl⟩, ⟨⟨7, rfl⟩, ⟨⟨8, rfl⟩, ⟨⟨9, rfl⟩, ⟨⟨10, rfl⟩, ⟨⟨11, rfl⟩, ⟨⟨12, rfl⟩, ⟨⟨13, rfl⟩, trivial⟩⟩⟩⟩⟩⟩⟩⟩⟩⟩⟩⟩⟩⟩).pickL [(g119, [.bool ((rb (spX x y))), .slice p133_1 ((words (spX x y).natAbs).length) p133_c1, .bool ((rb (spY x y))), .slice p133_2 ((words (spY x y).natAbs).length) p133_c2, .slice p133_3 ((words (spD x y)).length) p133_c3]), (g131, [.bool ((rb (spX u v))), .slice p73_1 ((words (spX u v).natAbs).length) p73_c1, .bool ((rb (spY u v))), .slice p73_2 ((words (spY u v).natAbs).length) p73_c2, .slice p73_3 ((words (spD u v)).length) p73_c3]), (g8, [.bool (rb u.num), .slice a1 ((words u.num.natAbs).length) ac1, .slice a2 ((words u.den).length) ac2, .bool (rb v.num), .slice a3 ((words v.num.natAbs).length) ac3, .slice a4 ((words v.den).length) ac4, .bool (rb x.num), .slice u1 ((words x.num.natAbs).length) uc1, .slice u2 ((words x.den).length) uc2, .bool (rb y.num), .slice u3 ((words y.num.natAbs).length) uc3, .slice u4 ((words y.den).length) uc4]), (g4, [.bool (rb x.num), .slice u1 ((words x.num.natAbs).length) uc1, .slice u2 ((words x.den).length) uc2, .bool (rb y.num), .slice u3 ((words y.num.natAbs).length) uc3, .slice u4 ((words y.den).length) uc4]), (g2, [.bool (rb u.num), .slice a1 ((words u.num.natAbs).length) ac1, .slice a2 ((words u.den).length) ac2, .bool (rb v.num), .slice a3 ((words v.num.natAbs).length) ac3, .slice a4 ((words v.den).length) ac4])] [1, 0, 2, 3, 4] rfl (by decide)), hs136.nil, hs136.cap, hs135.nil, hs135.cap, hs134.nil, hs134.cap, hs76.nil, hs76.cap, hs75.nil, hs75.cap, hs74.nil, hs74.cap⟩
  · refine op_new (vs := [.bool false, .slice none 0 0, .bool false, .slice none 0 0, .slice none 0 0]) (t := 48) hA hS 4 rfl rfl rfl rfl (fun g => .pointer (some ⟨g, 0, none⟩)) (does_alloc (z := .agg #[.bool false, .slice none 0 0, .bool false, .slice none 0 0, .slice none 0 0]) (by kernel_rfl) rfl) rfl ?_
    intro g141 w142 hS
    refine ⟨(hS.partD (.cons _ (.cons_cons _ (.cons_cons _ (.cons_cons _ .slnil)))) 0 rfl (.refl _)), ?_⟩
    intro a hA
    refine any_many (rs := [1, 5]) (by kernel_rfl) (by simp) ⟨?_, ?_, trivial⟩
    · refine op_call hA 1 rfl rfl rfl rfl (enters_func  rfl rfl (fun w => by kernel_rfl)) (zspread_any (show Nm _ (Q6.rat u v) a1 ac1 a2 ac2 a3 ac3 a4 ac4 from ⟨⟨(hS.rd 7 rfl), ha.s1.nil, ha.s1.cap⟩, ⟨(hS.rd 6 rfl), ha.s2.nil, ha.s2.cap⟩, ⟨(hS.rd 5 rfl), ha.s3.nil, ha.s3.cap⟩, ⟨(hS.rd 4 rfl), ha.s4.nil, ha.s4.cap⟩⟩) hu hv) ?_
      rintro _ w148 ⟨p143_1, p143_c1, p143_2, p143_c2, p143_3, p143_c3, rfl, hs144, hs145, hs146, hb147⟩
      replace hS := hS.call hb147
      replace hS := hS.addR hs144.rd
      replace hS := hS.addR hs145.rd
      replace hS := hS.addR hs146.rd
      refine ⟨_, rfl, (hS.partD (.cons _ (.cons_cons _ (.cons_cons _ (.cons_cons _ .slnil)))) 3 rfl (.refl _)), ?_⟩
      intro a hA
      refine any_many (rs := [3, 5]) (by kernel_rfl) (by simp) ⟨?_, ?_, trivial⟩
      · refine op_call hA 3 rfl rfl rfl rfl (enters_func  rfl rfl (fun w => by kernel_rfl)) (zspread_any (show Nm _ (Q6.rat x y) u1 uc1 u2 uc2 u3 uc3 u4 uc4 from ⟨⟨(hS.rd 6 rfl), hb.s1.nil, hb.s1.cap⟩, ⟨(hS.rd 5 rfl), hb.s2.nil, hb.s2.cap⟩, ⟨(hS.rd 4 rfl), hb.s3.nil, hb.s3.cap⟩, ⟨(hS.rd 3 rfl), hb.s4.nil, hb.s4.cap⟩⟩) hx hy) ?_
        rintro _ w154 ⟨p149_1, p149_c1, p149_2, p149_c2, p149_3, p149_c3, rfl, hs150, hs151, hs152, hb153⟩
        replace hS := hS.call hb153
        replace hS := hS.addR hs150.rd
        replace hS := hS.addR hs151.rd
        replace hS := hS.addR hs152.rd
        refine ⟨_, rfl, (hS.partD (.cons _ (.cons_cons _ (.cons_cons _ (.cons_cons _ .slnil)))) 6 rfl (.refl _)), ?_⟩
        intro a hA
        refine any_one (by kernel_rfl) (op_new (vs := [.bool false, .slice none 0 0, .bool false, .slice none 0 0, .slice none 0 0]) (t := 48) hA hS 5 rfl rfl rfl rfl (fun g => .pointer (some ⟨g, 0, none⟩)) (does_alloc (z := .agg #[.bool false, .slice none 0 0, .bool false, .slice none 0 0, .slice none 0 0]) (by kernel_rfl) rfl) rfl ?_)
        intro g155 w156 hS
        refine ⟨(hS.partD (.cons _ (.cons _ (.cons_cons _ (.cons_cons _ (.cons_cons _ .slnil))))) 6 rfl (.refl _)), ?_⟩
        intro a hA
        refine any_one (by kernel_rfl) (op_store (us := [.bool ((rb (spX u v))), .slice p143_1 ((words (spX u v).natAbs).length) p143_c1, .bool ((rb (spY u v))), .slice p143_2 ((words (spY u v).natAbs).length) p143_c2, .slice p143_3 ((words (spD u v)).length) p143_c3]) hA hS 6 rfl rfl rfl (sets_store (cs := [.bool ((rb (spX u v))), .slice p143_1 ((words (spX u v).natAbs).length) p143_c1, .bool ((rb (spY u v))), .slice p143_2 ((words (spY u v).natAbs).length) p143_c2, .slice p143_3 ((words (spD u v)).length) p143_c3]) rfl rfl rfl (by kernel_rfl) hS 1 rfl rfl rfl) 1 rfl rfl rfl rfl ?_)
        intro w157 hS
        refine ⟨(hS.partD (.cons _ (.cons _ (.cons_cons _ (.cons_cons _ (.cons_cons _ .slnil))))) 6 rfl (.refl _)), ?_⟩
        refine any_one (by kernel_rfl) (op_store (us := [.bool ((rb (spX x y))), .slice p149_1 ((words (spX x y).natAbs).length) p149_c1, .bool ((rb (spY x y))), .slice p149_2 ((words (spY x y).natAbs).length) p149_c2, .slice p149_3 ((words (spD x y)).length) p149_c3]) hA hS 7 rfl rfl rfl (sets_store (cs := [.bool ((rb (spX x y))), .slice p149_1 ((words (spX x y).natAbs).length) p149_c1, .bool ((rb (spY x y))), .slice p149_2 ((words (spY x y).natAbs).length) p149_c2, .slice p149_3 ((words (spD x y)).length) p149_c3]) rfl rfl rfl (by kernel_rfl) hS 0 rfl rfl rfl) 0 rfl rfl rfl rfl ?_)
        intro w158 hS
        refine ⟨(hS.partD (.cons _ (.cons _ (.cons_cons _ (.cons_cons _ (.cons_cons _ .slnil))))) 6 rfl (.refl _)), ?_⟩
        refine any_end (by kernel_rfl) ?_
        refine hJ58 _ _ ⟨g141, g155, p143_1, p143_c1, p143_2, p143_c2, p143_3, p143_c3, p149_1, p149_c1, p149_2, p149_c2, p149_3, p149_c3, hA.keep _ ⟨rfl, rfl, rfl, rfl, rfl, rfl, rfl, rfl, rfl, rfl, rfl, rfl, rfl, rfl, rfl, rfl, rfl, rfl, rfl, trivial⟩, ((hS.pickR [(p149_3, words (spD x y)), (p149_2, words (spY x y).natAbs), (p149_1, words (spX x y).natAbs), (p143_3, words (spD u v)), (p143_2, words (spY u v).natAbs), (p143_1, words (spX u v).natAbs), (u4, words y.den), (u3, words y.num.natAbs), (u2, words x.den), (u1, words x.num.natAbs), (a4, words v.den), (a3, words v.num.natAbs), (a2, words u.den), (a1, words u.num.natAbs)] ⟨⟨0, rfl⟩, ⟨⟨1, rfl⟩, ⟨⟨2, rfl⟩, ⟨⟨3, rfl⟩, ⟨⟨4, rfl⟩, ⟨⟨5, rfl⟩, ⟨⟨6, rfl⟩, ⟨⟨7, rfl⟩, ⟨⟨8, rfl⟩, ⟨⟨9, rfl⟩, ⟨⟨10, rfl⟩, ⟨⟨11, rfl⟩, ⟨⟨12, rfl⟩, ⟨⟨13, rfl⟩, trivial⟩⟩⟩⟩⟩⟩⟩⟩⟩⟩⟩⟩⟩⟩).pickL [(g155, [.bool ((rb (spX x y))), .slice p149_1 ((words (spX x y).natAbs).length) p149_c1, .bool ((rb (spY x y))), .slice p149_2 ((words (spY x y).natAbs).length) p149_c2, .slice p149_3 ((words (spD x y)).length) p149_c3]), (g141, [.bool ((rb (spX u v))), .slice p143_1 ((words (spX u v).natAbs).length) p143_c1, .bool ((rb (spY u v))), .slice p143_2 ((words (spY u v).natAbs).length) p143_c2, .slice p143_3 ((words (spD u v)).length) p143_c3]), (g8, [.bool (rb u.num), .slice a1 ((words u.num.natAbs).length) ac1, .slice a2 ((words u.den).length) ac2, .bool (rb v.num), .slice a3 ((words v.num.natAbs).length) ac3, .slice a4 ((words v.den).length) ac4, .bool (rb x.num), .slice u1 ((words x.num.natAbs).length) uc1, .slice u2 ((words x.den).length) uc2, .bool (rb y.num), .slice u3 ((words y.num.natAbs).length) uc3, .slice u4 ((words y.den).length) uc4]), (g4, [.bool (rb x.num), .slice u1 ((words x.num.natAbs).length) uc1, .slice u2 ((words x.den).length) uc2, .bool (rb y.num), .slice u3 ((words y.num.natAbs).length) uc3, .slice u4 ((words y.den).length) uc4]), (g2, [.bool (rb u.num), .slice a1 ((words u.num.natAbs).length) ac1, .slice a2 ((words u.den).length) ac2, .bool (rb v.num), .slice a3 ((words v.num.natAbs).length) ac3, .slice a4 ((words v.den).length) ac4])] [0, 1, 2, 3, 4] rfl (by decide)), hs152.nil, hs152.cap, hs151.nil, hs151.cap, hs150.nil, hs150.cap, hs146.nil, hs146.cap, hs145.nil, hs145.cap, hs144.nil, hs144.cap⟩
      · refine op_new (vs := [.bool false, .slice none 0 0, .bool false, .slice none 0 0, .slice none 0 0]) (t := 48) hA hS 5 rfl rfl rfl rfl (fun g => .pointer (some ⟨g, 0, none⟩)) (does_alloc (z := .agg #[.bool false, .slice none 0 0, .bool false, .slice none 0 0, .slice none 0 0]) (by kernel_rfl) rfl) rfl ?_
        intro g159 w160 hS
        refine ⟨(hS.partD (.cons _ (.cons _ (.cons_cons _ (.cons_cons _ (.cons_cons _ .slnil))))) 3 rfl (.refl _)), ?_⟩
        intro a hA
        refine any_one (by kernel_rfl) (op_call hA 3 rfl rfl rfl rfl (enters_func  rfl rfl (fun w => by kernel_rfl)) (zspread_any (show Nm _ (Q6.rat x y) u1 uc1 u2 uc2 u3 uc3 u4 uc4 from ⟨⟨(hS.rd 6 rfl), hb.s1.nil, hb.s1.cap⟩, ⟨(hS.rd 5 rfl), hb.s2.nil, hb.s2.cap⟩, ⟨(hS.rd 4 rfl), hb.s3.nil, hb.s3.cap⟩, ⟨(hS.rd 3 rfl), hb.s4.nil, hb.s4.cap⟩⟩) hx hy) ?_)
        rintro _ w166 ⟨p161_1, p161_c1, p161_2, p161_c2, p161_3, p161_c3, rfl, hs162, hs163, hs164, hb165⟩
        replace hS := hS.call hb165
        replace hS := hS.addR hs162.rd
        replace hS := hS.addR hs163.rd
        replace hS := hS.addR hs164.rd
        refine ⟨_, rfl, (hS.partD (.cons _ (.cons _ (.cons_cons _ (.cons_cons _ (.cons_cons _ .slnil))))) 6 rfl (.refl _)), ?_⟩
        intro a hA
        refine any_one (by kernel_rfl) (op_store (us := [.bool ((rb (spX u v))), .slice p143_1 ((words (spX u v).natAbs).length) p143_c1, .bool ((rb (spY u v))), .slice p143_2 ((words (spY u v).natAbs).length) p143_c2, .slice p143_3 ((words (spD u v)).length) p143_c3]) hA hS 6 rfl rfl rfl (sets_store (cs := [.bool ((rb (spX u v))), .slice p143_1 ((words (spX u v).natAbs).length) p143_c1, .bool ((rb (spY u v))), .slice p143_2 ((words (spY u v).natAbs).length) p143_c2, .slice p143_3 ((words (spD u v)).length) p143_c3]) rfl rfl rfl (by kernel_rfl) hS 1 rfl rfl rfl) 1 rfl rfl rfl rfl ?_)
        intro w167 hS
        refine ⟨(hS.partD (.cons _ (.cons _ (.cons_cons _ (.cons_cons _ (.cons_cons _ .slnil))))) 6 rfl (.refl _)), ?_⟩
        refine any_one (by kernel_rfl) (op_store (us := [.bool ((rb (spX x y))), .slice p161_1 ((words (spX x y).natAbs).length) p161_c1, .bool ((rb (spY x y))), .slice p161_2 ((words (spY x y).natAbs).length) p161_c2, .slice p161_3 ((words (spD x y)).length) p161_c3]) hA hS 7 rfl rfl rfl (sets_store (cs := [.bool ((rb (spX x y))), .slice p161_1 ((words (spX x y).natAbs).length) p161_c1, .bool ((rb (spY x y))), .slice p161_2 ((words (spY x y).natAbs).length) p161_c2, .slice p161_3 ((words (spD x y)).length) p161_c3]) rfl rfl rfl (by kernel_rfl) hS 0 rfl rfl rfl) 0 rfl rfl rfl rfl ?_)
        intro w168 hS
        refine ⟨(hS.partD (.cons _ (.cons _ (.cons_cons _ (.cons_cons _ (.cons_cons _ .slnil))))) 6 rfl (.refl _)), ?_⟩
        refine any_end (by kernel_rfl) ?_
        refine hJ58 _ _ ⟨g141, g159, p143_1, p143_c1, p143_2, p143_c2, p143_3, p143_c3, p161_1, p161_c1, p161_2, p161_c2, p161_3, p161_c3, hA.keep _ ⟨rfl, rfl, rfl, rfl, rfl, rfl, rfl, rfl, rfl, rfl, rfl, rfl, rfl, rfl, rfl, rfl, rfl, rfl, rfl, trivial⟩, ((hS.pickR [(p161_3, words (spD x y)), (p161_2, words (spY x y).natAbs), (p161_1, words (spX x y).natAbs), (p143_3, words (spD u v)), (p143_2, words (spY u v).natAbs), (p143_1, words (spX u v).natAbs), (u4, words y.den), (u3, words y.num.natAbs), (u2, words x.den), (u1, words x.num.natAbs), (a4, words v.den), (a3, words v.num.natAbs), (a2, words u.den), (a1, words u.num.natAbs)] ⟨⟨0, rfl⟩, ⟨⟨1, rfl⟩, ⟨⟨2, rfl⟩, ⟨⟨3, rfl⟩, ⟨⟨4, rfl⟩, ⟨⟨5, rfl⟩, ⟨⟨6, rfl⟩, ⟨⟨7, rfl⟩, ⟨⟨8, rfl⟩, ⟨⟨9, rfl⟩, ⟨⟨10, rfl⟩, ⟨⟨11, rfl⟩, ⟨⟨12, rfl⟩, ⟨⟨13, rfl⟩, trivial⟩⟩⟩⟩⟩⟩⟩⟩⟩⟩⟩⟩⟩⟩).pickL [(g159, [.bool ((rb (spX x y))), .slice p161_1 ((words (spX x y).natAbs).length) p161_c1, .bool ((rb (spY x y))), .slice p161_2 ((words (spY x y).natAbs).length) p161_c2, .slice p161_3 ((words (spD x y)).length) p161_c3]), (g141, [.bool ((rb (spX u v))), .slice p143_1 ((words (spX u v).natAbs).length) p143_c1, .bool ((rb (spY u v))), .slice p143_2 ((words (spY u v).natAbs).length) p143_c2, .slice p143_3 ((words (spD u v)).length) p143_c3]), (g8, [.bool (rb u.num), .slice a1 ((words u.num.natAbs).length) ac1, .slice a2 ((words u.den).length) ac2, .bool (rb v.num), .slice a3 ((words v.num.natAbs).length) ac3, .slice a4 ((words v.den).length) ac4, .bool (rb x.num), .slice u1 ((words x.num.natAbs).length) uc1, .slice u2 ((words x.den).length) uc2, .bool (rb y.num), .slice u3 ((words y.num.natAbs).length) uc3, .slice u4 ((words y.den).length) uc4]), (g4, [.bool (rb x.num), .slice u1 ((words x.num.natAbs).length) uc1, .slice u2 ((words x.den).length) uc2, .bool (rb y.num), .slice u3 ((words y.num.natAbs).length) uc3, .slice u4 ((words y.den).length) uc4]), (g2, [.bool (rb u.num), .slice a1 ((words u.num.natAbs).length) ac1, .slice a2 ((words u.den).length) ac2, .bool (rb v.num), .slice a3 ((words v.num.natAbs).length) ac3, .slice a4 ((words v.den).length) ac4])] [0, 1, 2, 3, 4] rfl (by decide)), hs164.nil, hs164.cap, hs163.nil, hs163.cap, hs162.nil, hs162.cap, hs146.nil, hs146.cap, hs145.nil, hs145.cap, hs144.nil, hs144.cap⟩
    · refine op_new (vs := [.bool false, .slice none 0 0, .bool false, .slice none 0 0, .slice none 0 0]) (t := 48) hA hS 5 rfl rfl rfl rfl (fun g => .pointer (some ⟨g, 0, none⟩)) (does_alloc (z := .agg #[.bool false, .slice none 0 0, .bool false, .slice none 0 0, .slice none 0 0]) (by kernel_rfl) rfl) rfl ?_
      intro g169 w170 hS
      refine ⟨(hS.partD (.cons _ (.cons _ (.cons_cons _ (.cons_cons _ (.cons_cons _ .slnil))))) 0 rfl (.refl _)), ?_⟩
      intro a hA
      refine any_one (by kernel_rfl) (op_call hA 1 rfl rfl rfl rfl (enters_func  rfl rfl (fun w => by kernel_rfl)) (zspread_any (show Nm _ (Q6.rat u v) a1 ac1 a2 ac2 a3 ac3 a4 ac4 from ⟨⟨(hS.rd 7 rfl), ha.s1.nil, ha.s1.cap⟩, ⟨(hS.rd 6 rfl), ha.s2.nil, ha.s2.cap⟩, ⟨(hS.rd 5 rfl), ha.s3.nil, ha.s3.cap⟩, ⟨(hS.rd 4 rfl), ha.s4.nil, ha.s4.cap⟩⟩) hu hv) ?_)
      rintro _ w176 ⟨p171_1, p171_c1, p171_2, p171_c2, p171_3, p171_c3, rfl, hs172, hs173, hs174, hb175⟩
      replace hS := hS.call hb175
      replace hS := hS.addR hs172.rd
      replace hS := hS.addR hs173.rd
      replace hS := hS.addR hs174.rd
      refine ⟨_, rfl, (hS.partD (.cons _ (.cons _ (.cons_cons _ (.cons_cons _ (.cons_cons _ .slnil))))) 3 rfl (.refl _)), ?_⟩
      intro a hA
      refine any_one (by kernel_rfl) (op_call hA 3 rfl rfl rfl rfl (enters_func  rfl rfl (fun w => by kernel_rfl)) (zspread_any (show Nm _ (Q6.rat x y) u1 uc1 u2 uc2 u3 uc3 u4 uc4 from ⟨⟨(hS.rd 6 rfl), hb.s1.nil, hb.s1.cap⟩, ⟨(hS.rd 5 rfl), hb.s2.nil, hb.s2.cap⟩, ⟨(hS.rd 4 rfl), hb.s3.nil, hb.s3.cap⟩, ⟨(hS.rd 3 rfl), hb.s4.nil, hb.s4.cap⟩⟩) hx hy) ?_)
      rintro _ w182 ⟨p177_1, p177_c1, p177_2, p177_c2, p177_3, p177_c3, rfl, hs178, hs179, hs180, hb181⟩
      replace hS := hS.call hb181
      replace hS := hS.addR hs178.rd
      replace hS := hS.addR hs179.rd
      replace hS := hS.addR hs180.rd
      refine ⟨_, rfl, (hS.partD (.cons _ (.cons _ (.cons_cons _ (.cons_cons _ (.cons_cons _ .slnil))))) 6 rfl (.refl _)), ?_⟩
      intro a hA
      refine any_one (by kernel_rfl) (op_store (us := [.bool ((rb (spX u v))), .slice p171_1 ((words (spX u v).natAbs).length) p171_c1, .bool ((rb (spY u v))), .slice p171_2 ((words (spY u v).natAbs).length) p171_c2, .slice p171_3 ((words (spD u v)).length) p171_c3]) hA hS 6 rfl rfl rfl (sets_store (cs := [.bool ((rb (spX u v))), .slice p171_1 ((words (spX u v).natAbs).length) p171_c1, .bool ((rb (spY u v))), .slice p171_2 ((words (spY u v).natAbs).length) p171_c2, .slice p171_3 ((words (spD u v)).length) p171_c3]) rfl rfl rfl (by kernel_rfl) hS 1 rfl rfl rfl) 1 rfl rfl rfl rfl ?_)
      intro w183 hS
      refine ⟨(hS.partD (.cons _ (.cons _ (.cons_cons _ (.cons_cons _ (.cons_cons _ .slnil))))) 6 rfl (.refl _)), ?_⟩
      refine any_one (by kernel_rfl) (op_store (us := [.bool ((rb (spX x y))), .slice p177_1 ((words (spX x y).natAbs).length) p177_c1, .bool ((rb (spY x y))), .slice p177_2 ((words (spY x y).natAbs).length) p177_c2, .slice p177_3 ((words (spD x y)).length) p177_c3]) hA hS 7 rfl rfl rfl (sets_store (cs := [.bool ((rb (spX x y))), .slice p177_1 ((words (spX x y).natAbs).length) p177_c1, .bool ((rb (spY x y))), .slice p177_2 ((words (spY x y).natAbs).length) p177_c2, .slice p177_3 ((words (spD x y)).length) p177_c3]) rfl rfl rfl (by kernel_rfl) hS 0 rfl rfl rfl) 0 rfl rfl rfl rfl ?_)
      intro w184 hS
      refine ⟨(hS.partD (.cons _ (.cons _ (.cons_cons _ (.cons_cons _ (.cons_cons _ .slnil))))) 6 rfl (.refl _)), ?_⟩
      refine any_end (by kernel_rfl) ?_
      refine hJ58 _ _ ⟨g141, g169, p171_1, p171_c1, p171_2, p171_c2, p171_3, p171_c3, p177_1, p177_c1, p177_2, p177_c2, p177_3, p177_c3, hA.keep _ ⟨rfl, rfl, rfl, rfl, rfl, rfl, rfl, rfl, rfl, rfl, rfl, rfl, rfl, rfl, rfl, rfl, rfl, rfl, rfl, trivial⟩, ((hS.pickR [(p177_3, words (spD x y)), (p177_2, words (spY x y).natAbs), (p177_1, words (spX x y).natAbs), (p171_3, words (spD u v)), (p171_2, words (spY u v).natAbs), (p171_1, words (spX u v).natAbs), (u4, words y.den), (u3, words y.num.natAbs), (u2, words x.den), (u1, words x.num.natAbs), (a4, words v.den), (a3, words v.num.natAbs), (a2, words u.den), (a1, words u.num.natAbs)] ⟨⟨0, rfl⟩, ⟨⟨1, rfl⟩, ⟨⟨2, rfl⟩, ⟨⟨3, rfl⟩, ⟨⟨4, rfl⟩, ⟨⟨5, rfl⟩, ⟨⟨6, rfl⟩, ⟨⟨7, rfl⟩, ⟨⟨8, rfl⟩, ⟨⟨9, rfl⟩, ⟨⟨10, rfl⟩, ⟨⟨11, rfl⟩, ⟨⟨12, rfl⟩, ⟨⟨13, rfl⟩, trivial⟩⟩⟩⟩⟩⟩⟩⟩⟩⟩⟩⟩⟩⟩).pickL [(g169, [.bool ((rb (spX x y))), .slice p177_1 ((words (spX x y).natAbs).length) p177_c1, .bool ((rb (spY x y))), .slice p177_2 ((words (spY x y).natAbs).length) p177_c2, .slice p177_3 ((words (spD x y)).length) p177_c3]), (g141, [.bool ((rb (spX u v))), .slice p171_1 ((words (spX u v).natAbs).length) p171_c1, .bool ((rb (spY u v))), .slice p171_2 ((words (spY u v).natAbs).length) p171_c2, .slice p171_3 ((words (spD u v)).length) p171_c3]), (g8, [.bool (rb u.num), .slice a1 ((words u.num.natAbs).length) ac1, .slice a2 ((words u.den).length) ac2, .bool (rb v.num), .slice a3 ((words v.num.natAbs).length) ac3, .slice a4 ((words v.den).length) ac4, .bool (rb x.num), .slice u1 ((words x.num.natAbs).length) uc1, .slice u2 ((words x.den).length) uc2, .bool (rb y.num), .slice u3 ((words y.num.natAbs).length) uc3, .slice u4 ((words y.den).length) uc4]), (g4, [.bool (rb x.num), .slice u1 ((words x.num.natAbs).length) uc1, .slice u2 ((words x.den).length) uc2, .bool (rb y.num), .slice u3 ((words y.num.natAbs).length) uc3, .slice u4 ((words y.den).length) uc4]), (g2, [.bool (rb u.num), .slice a1 ((words u.num.natAbs).length) ac1, .slice a2 ((words u.den).length) ac2, .bool (rb v.num), .slice a3 ((words v.num.natAbs).length) ac3, .slice a4 ((words v.den).length) ac4])] [0, 1, 2, 3, 4] rfl (by decide)), hs180.nil, hs180.cap, hs179.nil, hs179.cap, hs178.nil, hs178.cap, hs174.nil, hs174.cap, hs173.nil, hs173.cap, hs172.nil, hs172.cap⟩
  · refine op_new (vs := [.bool false, .slice none 0 0, .bool false, .slice none 0 0, .slice none 0 0]) (t := 48) hA hS 5 rfl rfl rfl rfl (fun g => .pointer (some ⟨g, 0, none⟩)) (does_alloc (z := .agg #[.bool false, .slice none 0 0, .bool false, .slice none 0 0, .slice none 0 0]) (by kernel_rfl) rfl) rfl ?_
    intro g185 w186 hS
    refine ⟨(hS.partD (.cons _ (.cons_cons _ (.cons_cons _ (.cons_cons _ .slnil)))) 0 rfl (.refl _)), ?_⟩
    intro a hA
    refine any_many (rs := [1, 4]) (by kernel_rfl) (by simp) ⟨?_, ?_, trivial⟩
    · refine op_call hA 1 rfl rfl rfl rfl (enters_func  rfl rfl (fun w => by kernel_rfl)) (zspread_any (show Nm _ (Q6.rat u v) a1 ac1 a2 ac2 a3 ac3 a4 ac4 from ⟨⟨(hS.rd 7 rfl), ha.s1.nil, ha.s1.cap⟩, ⟨(hS.rd 6 rfl), ha.s2.nil, ha.s2.cap⟩, ⟨(hS.rd 5 rfl), ha.s3.nil, ha.s3.cap⟩, ⟨(hS.rd 4 rfl), ha.s4.nil, ha.s4.cap⟩⟩) hu hv) ?_
      rintro _ w192 ⟨p187_1, p187_c1, p187_2, p187_c2, p187_3, p187_c3, rfl, hs188, hs189, hs190, hb191⟩
      replace hS := hS.call hb191
      replace hS := hS.addR hs188.rd
      replace hS := hS.addR hs189.rd
      replace hS := hS.addR hs190.rd
      refine ⟨_, rfl, (hS.partD (.cons _ (.cons_cons _ (.cons_cons _ (.cons_cons _ .slnil)))) 3 rfl (.refl _)), ?_⟩
      intro a hA
      refine any_many (rs := [3, 4]) (by kernel_rfl) (by simp) ⟨?_, ?_, trivial⟩
      · refine op_call hA 3 rfl rfl rfl rfl (enters_func  rfl rfl (fun w => by kernel_rfl)) (zspread_any (show Nm _ (Q6.rat x y) u1 uc1 u2 uc2 u3 uc3 u4 uc4 from ⟨⟨(hS.rd 6 rfl), hb.s1.nil, hb.s1.cap⟩, ⟨(hS.rd 5 rfl), hb.s2.nil, hb.s2.cap⟩, ⟨(hS.rd 4 rfl), hb.s3.nil, hb.s3.cap⟩, ⟨(hS.rd 3 rfl), hb.s4.nil, hb.s4.cap⟩⟩) hx hy) ?_
        rintro _ w198 ⟨p193_1, p193_c1, p193_2, p193_c2, p193_3, p193_c3, rfl, hs194, hs195, hs196, hb197⟩
        replace hS := hS.call hb197
        replace hS := hS.addR hs194.rd
        replace hS := hS.addR hs195.rd
        replace hS := hS.addR hs196.rd
        refine ⟨_, rfl, (hS.partD (.cons _ (.cons_cons _ (.cons_cons _ (.cons_cons _ .slnil)))) 6 rfl (.refl _)), ?_⟩
        intro a hA
        refine any_one (by kernel_rfl) (op_new (vs := [.bool false, .slice none 0 0, .bool false, .slice none 0 0, .slice none 0 0]) (t := 48) hA hS 4 rfl rfl rfl rfl (fun g => .pointer (some ⟨g, 0, none⟩)) (does_alloc (z := .agg #[.bool false, .slice none 0 0, .bool false, .slice none 0 0, .slice none 0 0]) (by kernel_rfl) rfl) rfl ?_)
        intro g199 w200 hS
        refine ⟨(hS.partD (.cons _ (.cons _ (.cons_cons _ (.cons_cons _ (.cons_cons _ .slnil))))) 6 rfl (.refl _)), ?_⟩
        intro a hA
        refine any_one (by kernel_rfl) (op_store (us := [.bool ((rb (spX u v))), .slice p187_1 ((words (spX u v).natAbs).length) p187_c1, .bool ((rb (spY u v))), .slice p187_2 ((words (spY u v).natAbs).length) p187_c2, .slice p187_3 ((words (spD u v)).length) p187_c3]) hA hS 6 rfl rfl rfl (sets_store (cs := [.bool ((rb (spX u v))), .slice p187_1 ((words (spX u v).natAbs).length) p187_c1, .bool ((rb (spY u v))), .slice p187_2 ((words (spY u v).natAbs).length) p187_c2, .slice p187_3 ((words (spD u v)).length) p187_c3]) rfl rfl rfl (by kernel_rfl) hS 0 rfl rfl rfl) 0 rfl rfl rfl rfl ?_)
        intro w201 hS
        refine ⟨(hS.partD (.cons _ (.cons _ (.cons_cons _ (.cons_cons _ (.cons_cons _ .slnil))))) 6 rfl (.refl _)), ?_⟩
        refine any_one (by kernel_rfl) (op_store (us := [.bool ((rb (spX x y))), .slice p193_1 ((words (spX x y).natAbs).length) p193_c1, .bool ((rb (spY x y))), .slice p193_2 ((words (spY x y).natAbs).length) p193_c2, .slice p193_3 ((words (spD x y)).length) p193_c3]) hA hS 7 rfl rfl rfl (sets_store (cs := [.bool ((rb (spX x y))), .slice p193_1 ((words (spX x y).natAbs).length) p193_c1, .bool ((rb (spY x y))), .slice p193_2 ((words (spY x y).natAbs).length) p193_c2, .slice p193_3 ((words (spD x y)).length) p193_c3]) rfl rfl rfl (by kernel_rfl) hS 1 rfl rfl rfl) 1 rfl rfl rfl rfl ?_)
        intro w202 hS
        refine ⟨(hS.partD (.cons _ (.cons _ (.cons_cons _ (.cons_cons _ (.cons_cons _ .slnil))))) 6 rfl (.refl _)), ?_⟩
        refine any_end (by kernel_rfl) ?_
        refine hJ58 _ _ ⟨g199, g185, p187_1, p187_c1, p187_2, p187_c2, p187_3, p187_c3, p193_1, p193_c1, p193_2, p193_c2, p193_3, p193_c3, hA.keep _ ⟨rfl, rfl, rfl, rfl, rfl, rfl, rfl, rfl, rfl, rfl, rfl, rfl, rfl, rfl, rfl, rfl, rfl, rfl, rfl, trivial⟩, ((hS.pickR [(p193_3, words (spD x y)), (p193_2, words (spY x y).natAbs), (p193_1, words (spX x y).natAbs), (p187_3, words (spD u v)), (p187_2, words (spY u v).natAbs), (p187_1, words (spX u v).natAbs), (u4, words y.den), (u3, words y.num.natAbs), (u2, words x.den), (u1, words x.num.natAbs), (a4, words v.den), (a3, words v.num.natAbs), (a2, words u.den), (a1, words u.num.natAbs)] ⟨⟨0, rfl⟩, ⟨⟨1, rfl⟩, ⟨⟨2, rfl⟩, ⟨⟨3, rfl⟩, ⟨⟨4, rfl⟩, ⟨⟨5, rfl⟩, ⟨⟨6, rfl⟩, ⟨⟨7, rfl⟩, ⟨⟨8, rfl⟩, ⟨⟨9, rfl⟩, ⟨⟨10, rfl⟩, ⟨⟨11, rfl⟩, ⟨⟨12, rfl⟩, ⟨⟨13, rfl⟩, trivial⟩⟩⟩⟩⟩⟩⟩⟩⟩⟩⟩⟩⟩⟩).pickL [(g185, [.bool ((rb (spX x y))), .slice p193_1 ((words (spX x y).natAbs).length) p193_c1, .bool ((rb (spY x y))), .slice p193_2 ((words (spY x y).natAbs).length) p193_c2, .slice p193_3 ((words (spD x y)).length) p193_c3]), (g199, [.bool ((rb (spX u v))), .slice p187_1 ((words (spX u v).natAbs).length) p187_c1, .bool ((rb (spY u v))), .slice p187_2 ((words (spY u v).natAbs).length) p187_c2, .slice p187_3 ((words (spD u v)).length) p187_c3]), (g8, [.bool (rb u.num), .slice a1 ((words u.num.natAbs).length) ac1, .slice a2 ((words u.den).length) ac2, .bool (rb v.num), .slice a3 ((words v.num.natAbs).length) ac3, .slice a4 ((words v.den).length) ac4, .bool (rb x.num), .slice u1 ((words x.num.natAbs).length) uc1, .slice u2 ((words x.den).length) uc2, .bool (rb y.num), .slice u3 ((words y.num.natAbs).length) uc3, .slice u4 ((words y.den).length) uc4]), (g4, [.bool (rb x.num), .slice u1 ((words x.num.natAbs).length) uc1, .slice u2 ((words x.den).length) uc2, .bool (rb y.num), .slice u3 ((words y.num.natAbs).length) uc3, .slice u4 ((words y.den).length) uc4]), (g2, [.bool (rb u.num), .slice a1 ((words u.num.natAbs).length) ac1, .slice a2 ((words u.den).length) ac2, .bool (rb v.num), .slice a3 ((words v.num.natAbs).length) ac3, .slice a4 ((words v.den).length) ac4])] [1, 0, 2, 3, 4] rfl (by decide)), hs196.nil, hs196.cap, hs195.nil, hs195.cap, hs194.nil, hs194.cap, hs190.nil, hs190.cap, hs189.nil, hs189.cap, hs188.nil, hs188.cap⟩
      · refine op_new (vs := [.bool false, .slice none 0 0, .bool false, .slice none 0 0, .slice none 0 0]) (t := 48) hA hS 4 rfl rfl rfl rfl (fun g => .pointer (some ⟨g, 0, none⟩)) (does_alloc (z := .agg #[.bool false, .slice none 0 0, .bool false, .slice none 0 0, .slice none 0 0]) (by kernel_rfl) rfl) rfl ?_
        intro g203 w204 hS
        refine ⟨(hS.partD (.cons _ (.cons _ (.cons_cons _ (.cons_cons _ (.cons_cons _ .slnil))))) 3 rfl (.refl _)), ?_⟩
        intro a hA
        refine any_one (by kernel_rfl) (op_call hA 3 rfl rfl rfl rfl (enters_func  rfl rfl (fun w => by kernel_rfl)) (zspread_any (show Nm _ (Q6.rat x y) u1 uc1 u2 uc2 u3 uc3 u4 uc4 from ⟨⟨(hS.rd 6 rfl), hb.s1.nil, hb.s1.cap⟩, ⟨(hS.rd 5 rfl), hb.s2.nil, hb.s2.cap⟩, ⟨(hS.rd 4 rfl), hb.s3.nil, hb.s3.cap⟩, ⟨(hS.rd 3 rfl), hb.s4.nil, hb.s4.cap⟩⟩) hx hy) ?_)
        rintro _ w210 ⟨p205_1, p205_c1, p205_2, p205_c2, p205_3, p205_c3, rfl, hs206, hs207, hs208, hb209⟩
        replace hS := hS.call hb209
        replace hS := hS.addR hs206.rd
        replace hS := hS.addR hs207.rd
        replace hS := hS.addR hs208.rd
        refine ⟨_, rfl, (hS.partD (.cons _ (.cons _ (.cons_cons _ (.cons_cons _ (.cons_cons _ .slnil))))) 6 rfl (.refl _)), ?_⟩
        intro a hA
        refine any_one (by kernel_rfl) (op_store (us := [.bool ((rb (spX u v))), .slice p187_1 ((words (spX u v).natAbs).length) p187_c1, .bool ((rb (spY u v))), .slice p187_2 ((words (spY u v).natAbs).length) p187_c2, .slice p187_3 ((words (spD u v)).length) p187_c3]) hA hS 6 rfl rfl rfl (sets_store (cs := [.bool ((rb (spX u v))), .slice p187_1 ((words (spX u v).natAbs).length) p187_c1, .bool ((rb (spY u v))), .slice p187_2 ((words (spY u v).natAbs).length) p187_c2, .slice p187_3 ((words (spD u v)).length) p187_c3]) rfl rfl rfl (by kernel_rfl) hS 0 rfl rfl rfl) 0 rfl rfl rfl rfl ?_)
        intro w211 hS
        refine ⟨(hS.partD (.cons _ (.cons _ (.cons_cons _ (.cons_cons _ (.cons_cons _ .slnil))))) 6 rfl (.refl _)), ?_⟩
        refine any_one (by kernel_rfl) (op_store (us := [.bool ((rb (spX x y))), .slice p205_1 ((words (spX x y).natAbs).length) p205_c1, .bool ((rb (spY x y))), .slice p205_2 ((words (spY x y).natAbs).length) p205_c2, .slice p205_3 ((words (spD x y)).length) p205_c3]) hA hS 7 rfl rfl rfl (sets_store (cs := [.bool ((rb (spX x y))), .slice p205_1 ((words (spX x y).natAbs).length) p205_c1, .bool ((rb (spY x y))), .slice p205_2 ((words (spY x y).natAbs).length) p205_c2, .slice p205_3 ((words (spD x y)).length) p205_c3]) rfl rfl rfl (by kernel_rfl) hS 1 rfl rfl rfl) 1 rfl rfl rfl rfl ?_)
        intro w212 hS
        refine ⟨(hS.partD (.cons _ (.cons _ (.cons_cons _ (.cons_cons _ (.cons_cons _ .slnil))))) 6 rfl (.refl _)), ?_⟩
        refine any_end (by kernel_rfl) ?_
        refine hJ58 _ _ ⟨g203, g185, p187_1, p187_c1, p187_2, p187_c2, p187_3, p187_c3, p205_1, p205_c1, p205_2, p205_c2, p205_3, p205_c3, hA.keep _ ⟨rfl, rfl, rfl, rfl, rfl, rfl, rfl, rfl, rfl, rfl, rfl, rfl, rfl, rfl, rfl, rfl, rfl, rfl, rfl, trivial⟩, ((hS.pickR [(p205_3, words (spD x y)), (p205_2, words (spY x y).natAbs), (p205_1, words (spX x y).natAbs), (p187_3, words (spD u v)), (p187_2, words (spY u v).natAbs), (p187_1, words (spX u v).natAbs), (u4, words y.den), (u3, words y.num.natAbs), (u2, words x.den), (u1, words x.num.natAbs), (a4, words v.den), (a3, words v.num.natAbs), (a2, words u.den), (a1, words u.num.natAbs)] ⟨⟨0, rfl⟩, ⟨⟨1, rfl⟩, ⟨⟨2, rfl⟩, ⟨⟨3, rfl⟩, ⟨⟨4, rfl⟩, ⟨⟨5, rfl⟩, ⟨⟨6, rfl⟩, ⟨⟨7, rfl⟩, ⟨⟨8, rfl⟩, ⟨⟨9, rfl⟩, ⟨⟨10, rfl⟩, ⟨⟨11, rfl⟩, ⟨⟨12, rfl⟩, ⟨⟨13, rfl⟩, trivial⟩⟩⟩⟩⟩⟩⟩⟩⟩⟩⟩⟩⟩⟩).pickL [(g185, [.bool ((rb (spX x y))), .slice p205_1 ((words (spX x y).natAbs).length) p205_c1, .bool ((rb (spY x y))), .slice p205_2 ((words (spY x y).natAbs).length) p205_c2, .slice p205_3 ((words (spD x y)).length) p205_c3]), (g203, [.bool ((rb (spX u v))), .slice p187_1 ((words (spX u v).natAbs).length) p187_c1, .bool ((rb (spY u v))), .slice p187_2 ((words (spY u v).natAbs).length) p187_c2, .slice p187_3 ((words (spD u v)).length) p187_c3]), (g8, [.bool (rb u.num), .slice a1 ((words u.num.natAbs).length) ac1, .slice a2 ((words u.den).length) ac2, .bool (rb v.num), .slice a3 ((words v.num.natAbs).length) ac3, .slice a4 ((words v.den).length) ac4, .bool (rb x.num), .slice u1 ((words x.num.natAbs).length) uc1, .slice u2 ((words x.den).length) uc2, .bool (rb y.num), .slice u3 ((words y.num.natAbs).length) uc3, .slice u4 ((words y.den).length) uc4]), (g4, [.bool (rb x.num), .slice u1 ((words x.num.natAbs).length) uc1, .slice u2 ((words x.den).length) uc2, .bool (rb y.num), .slice u3 ((words y.num.natAbs).length) uc3, .slice u4 ((words y.den).length) uc4]), (g2, [.bool (rb u.num), .slice a1 ((words u.num.natAbs).length) ac1, .slice a2 ((words u.den).length) ac2, .bool (rb v.num), .slice a3 ((words v.num.natAbs).length) ac3, .slice a4 ((words v.den).length) ac4])] [1, 0, 2, 3, 4] rfl (by decide)), hs208.nil, hs208.cap, hs207.nil, hs207.cap, hs206.nil, hs206.cap, hs190.nil, hs190.cap, hs189.nil, hs189.cap, hs188.nil, hs188.cap⟩
    · refine op_new (vs := [.bool false, .slice none 0 0, .bool false, .slice none 0 0, .slice none 0 0]) (t := 48) hA hS 4 rfl rfl rfl rfl (fun g => .pointer (some ⟨g, 0, none⟩)) (does_alloc (z := .agg #[.bool false, .slice none 0 0, .bool false, .slice none 0 0, .slice none 0 0]) (by kernel_rfl) rfl) rfl ?_
      intro g213 w214 hS
      refine ⟨(hS.partD (.cons _ (.cons _ (.cons_cons _ (.cons_cons _ (.cons_cons _ .slnil))))) 0 rfl (.refl _)), ?_⟩
      intro a hA
      refine any_one (by kernel_rfl) (op_call hA 1 rfl rfl rfl rfl (enters_func  rfl rfl (fun w => by kernel_rfl)) (zspread_any (show Nm _ (Q6.rat u v) a1 ac1 a2 ac2 a3 ac3 a4 ac4 from ⟨⟨(hS.rd 7 rfl), ha.s1.nil, ha.s1.cap⟩, ⟨(hS.rd 6 rfl), ha.s2.nil, ha.s2.cap⟩, ⟨(hS.rd 5 rfl), ha.s3.nil, ha.s3.cap⟩, ⟨(hS.rd 4 rfl), ha.s4.nil, ha.s4.cap⟩⟩) hu hv) ?_)
      rintro _ w220 ⟨p215_1, p215_c1, p215_2, p215_c2, p215_3, p215_c3, rfl, hs216, hs217, hs218, hb219⟩
      replace hS := hS.call hb219
      replace hS := hS.addR hs216.rd
      replace hS := hS.addR hs217.rd
      replace hS := hS.addR hs218.rd
      refine ⟨_, rfl, (hS.partD (.cons _ (.cons _ (.cons_cons _ (.cons_cons _ (.cons_cons _ .slnil))))) 3 rfl (.refl _)), ?_⟩
      intro a hA
      refine any_one (by kernel_rfl) (op_call hA 3 rfl rfl rfl rfl (enters_func  rfl rfl (fun w => by kernel_rfl)) (zspread_any (show Nm _ (Q6.rat x y) u1 uc1 u2 uc2 u3 uc3 u4 uc4 from ⟨⟨(hS.rd 6 rfl), hb.s1.nil, hb.s1.cap⟩, ⟨(hS.rd 5 rfl), hb.s2.nil, hb.s2.cap⟩, ⟨(hS.rd 4 rfl), hb.s3.nil, hb.s3.cap⟩, ⟨(hS.rd 3 rfl), hb.s4.nil, hb.s4.cap⟩⟩) hx hy) ?_)
      rintro _ w226 ⟨p221_1, p221_c1, p221_2, p221_c2, p221_3, p221_c3, rfl, hs222, hs223, hs224, hb225⟩
      replace hS := hS.call hb225
      replace hS := hS.addR hs222.rd
      replace hS := hS.addR hs223.rd
      replace hS := hS.addR hs224.rd
      refine ⟨_, rfl, (hS.partD (.cons _ (.cons _ (.cons_cons _ (.cons_cons _ (.cons_cons _ .slnil))))) 6 rfl (.refl _)), ?_⟩
      intro a hA
      refine any_one (by kernel_rfl) (op_store (us := [.bool ((rb (spX u v))), .slice p215_1 ((words (spX u v).natAbs).length) p215_c1, .bool ((rb (spY u v))), .slice p215_2 ((words (spY u v).natAbs).length) p215_c2, .slice p215_3 ((words (spD u v)).length) p215_c3]) hA hS 6 rfl rfl rfl (sets_store (cs := [.bool ((rb (spX u v))), .slice p215_1 ((words (spX u v).natAbs).length) p215_c1, .bool ((rb (spY u v))), .slice p215_2 ((words (spY u v).natAbs).length) p215_c2, .slice p215_3 ((words (spD u v)).length) p215_c3]) rfl rfl rfl (by kernel_rfl) hS 0 rfl rfl rfl) 0 rfl rfl rfl rfl ?_)
      intro w227 hS
      refine ⟨(hS.partD (.cons _ (.cons _ (.cons_cons _ (.cons_cons _ (.cons_cons _ .slnil))))) 6 rfl (.refl _)), ?_⟩
      refine any_one (by kernel_rfl) (op_store (us := [.bool ((rb (spX x y))), .slice p221_1 ((words (spX x y).natAbs).length) p221_c1, .bool ((rb (spY x y))), .slice p221_2 ((words (spY x y).natAbs).length) p221_c2, .slice p221_3 ((words (spD x y)).length) p221_c3]) hA hS 7 rfl rfl rfl (sets_store (cs := [.bool ((rb (spX x y))), .slice p221_1 ((words (spX x y).natAbs).length) p221_c1, .bool ((rb (spY x y))), .slice p221_2 ((words (spY x y).natAbs).length) p221_c2, .slice p221_3 ((words (spD x y)).length) p221_c3]) rfl rfl rfl (by kernel_rfl) hS 1 rfl rfl rfl) 1 rfl rfl rfl rfl ?_)
      intro w228 hS
      refine ⟨(hS.partD (.cons _ (.cons _ (.cons_cons _ (.cons_cons _ (.cons_cons _ .slnil))))) 6 rfl (.refl _)), ?_⟩
      refine any_end (by kernel_rfl) ?_
      refine hJ58 _ _ ⟨g213, g185, p215_1, p215_c1, p215_2, p215_c2, p215_3, p215_c3, p221_1, p221_c1, p221_2, p221_c2, p221_3, p221_c3, hA.keep _ ⟨rfl, rfl, rfl, rfl, rfl, rfl, rfl, rfl, rfl, rfl, rfl, rfl, rfl, rfl, rfl, rfl, rfl, rfl, rfl, trivial⟩, ((hS.pickR [(p221_3, words (spD x y)), (p221_2, words (spY x y).natAbs), (p221_1, words (spX x y).natAbs), (p215_3, words (spD u v)), (p215_2, words (spY u v).natAbs), (p215_1, words (spX u v).natAbs), (u4, words y.den), (u3, words y.num.natAbs), (u2, words x.den), (u1, words x.num.natAbs), (a4, words v.den), (a3, words v.num.natAbs), (a2, words u.den), (a1, words u.num.natAbs)] ⟨⟨0, rfl⟩, ⟨⟨1, rfl⟩, ⟨⟨2, rfl⟩, ⟨⟨3, rfl⟩, ⟨⟨4, rfl⟩, ⟨⟨5, rfl⟩, ⟨⟨6, rfl⟩, ⟨⟨7, rfl⟩, ⟨⟨8, rfl⟩, ⟨⟨9, rfl⟩, ⟨⟨10, rfl⟩, ⟨⟨11, rfl⟩, ⟨⟨12, rfl⟩, ⟨⟨13, rfl⟩, trivial⟩⟩⟩⟩⟩⟩⟩⟩⟩⟩⟩⟩⟩⟩).pickL [(g185, [.bool ((rb (spX x y))), .slice p221_1 ((words (spX x y).natAbs).length) p221_c1, .bool ((rb (spY x y))), .slice p221_2 ((words (spY x y).natAbs).length) p221_c2, .slice p221_3 ((words (spD x y)).length) p221_c3]), (g213, [.bool ((rb (spX u v))), .slice p215_1 ((words (spX u v).natAbs).length) p215_c1, .bool ((rb (spY u v))), .slice p215_2 ((words (spY u v).natAbs).length) p215_c2, .slice p215_3 ((words (spD u v)).length) p215_c3]), (g8, [.bool (rb u.num), .slice a1 ((words u.num.natAbs).length) ac1, .slice a2 ((words u.den).length) ac2, .bool (rb v.num), .slice a3 ((words v.num.natAbs).length) ac3, .slice a4 ((words v.den).length) ac4, .bool (rb x.num), .slice u1 ((words x.num.natAbs).length) uc1, .slice u2 ((words x.den).length) uc2, .bool (rb y.num), .slice u3 ((words y.num.natAbs).length) uc3, .slice u4 ((words y.den).length) uc4]), (g4, [.bool (rb x.num), .slice u1 ((words x.num.natAbs).length) uc1, .slice u2 ((words x.den).length) uc2, .bool (rb y.num), .slice u3 ((words y.num.natAbs).length) uc3, .slice u4 ((words y.den).length) uc4]), (g2, [.bool (rb u.num), .slice a1 ((words u.num.natAbs).length) ac1, .slice a2 ((words u.den).length) ac2, .bool (rb v.num), .slice a3 ((words v.num.natAbs).length) ac3, .slice a4 ((words v.den).length) ac4])] [1, 0, 2, 3, 4] rfl (by decide)), hs224.nil, hs224.cap, hs223.nil, hs223.cap, hs222.nil, hs222.cap, hs218.nil, hs218.cap, hs217.nil, hs217.cap, hs216.nil, hs216.cap⟩
theorem cmpQ_any {w : World} {p q : Q6} {a1 a2 a3 a4 : Option Addr} {ac1 ac2 ac3 ac4 : Nat} (ha : Nm w p a1 ac1 a2 ac2 a3 ac3 a4 ac4) (hl : LenQ p) {u1 u2 u3 u4 : Option Addr} {uc1 uc2 uc3 uc4 : Nat} (hb : Nm w q u1 uc1 u2 uc2 u3 uc3 u4 uc4) (hm : LenQ q) : Calls Try.prog 7 #[numV p a1 ac1 a2 ac2 a3 ac3 a4 ac4, numV q u1 uc1 u2 uc2 u3 uc3 u4 uc4] w fun e w' => e = .returned (.tuple #[.int .i64 (cmpQ p q).1, .int .i64 (cmpQ p q).2]) ∧ Below w.heap.size w w' := by
  unfold cmpQ
  by_cases hw : wantR2 p q = 0
  · rw [if_pos hw]
    obtain ⟨s1, s2⟩ := wantR2_ok hw
    obtain ⟨u, v, rfl, hu, hv⟩ := sound_rat ha.s1.rd.dig ha.s2.rd.dig ha.s3.rd.dig ha.s4.rd.dig s1
    obtain ⟨x, y, rfl, hx, hy⟩ := sound_rat hb.s1.rd.dig hb.s2.rd.dig hb.s3.rd.dig hb.s4.rd.dig s2
    rw [reQ_rat, reQ_rat]
    exact cmpW_any ha hb hu hv hx hy hw
  · rw [if_neg hw]
    exact cmpE_any ha hl hb hm (bne_of hw)
end Go.Proofs.Ytmibkfihcihphaa
namespace Go.Proofs.Ytmibkfihcihphaa
open Go.RowKit
set_option linter.unusedVariables false
set_option linter.unusedSimpArgs false
set_option maxRecDepth 100000
theorem ExQ_is1_22 : Is1 Try.prog 22 := ⟨⟨_, Try.underlying22, rfl⟩, by kernel_rfl⟩
theorem ExQ_is1_4 : Is1 Try.prog 4 := ⟨⟨_, Try.underlying4, rfl⟩, by kernel_rfl⟩
theorem ExQ_fld_46_0 : FieldAt Try.prog 46 0 0 := ⟨_, _, Try.underlying46, rfl, rfl, by kernel_rfl⟩
theorem ExQ_fld_46_1 : FieldAt Try.prog 46 1 1 := ⟨_, _, Try.underlying46, rfl, rfl, by kernel_rfl⟩
theorem ExQ_fld_48_0 : FieldAt Try.prog 48 0 0 := ⟨_, _, Try.underlying48, rfl, rfl, by kernel_rfl⟩
theorem ExQ_fld_48_2 : FieldAt Try.prog 48 2 4 := ⟨_, _, Try.underlying48, rfl, rfl, by kernel_rfl⟩
theorem ExQ_isS_46 : IsS Try.prog 46 2 := ⟨⟨_, Try.underlying46⟩, by kernel_rfl⟩
theorem ExQ_isS_48 : IsS Try.prog 48 5 := ⟨⟨_, Try.underlying48⟩, by kernel_rfl⟩
theorem zdivmod_any {w : World} {x1 y1 x2 y2 : Int} {d1 d2 : Nat} {a1 a2 a3 : Option Addr} {ac1 ac2 ac3 : Nat} (ha1 : Sc w a1 ac1 (words x1.natAbs)) (ha2 : Sc w a2 ac2 (words y1.natAbs)) (ha3 : Sc w a3 ac3 (words d1)) {u1 u2 u3 : Option Addr} {uc1 uc2 uc3 : Nat} (hu1 : Sc w u1 uc1 (words x2.natAbs)) (hu2 : Sc w u2 uc2 (words y2.natAbs)) (hu3 : Sc w u3 uc3 (words d2)) (la1 : (words x1.natAbs).length ≤ 10000) (la2 : (words y1.natAbs).length ≤ 10000) (la3 : (words d1).length ≤ 10000) (lu1 : (words x2.natAbs).length ≤ 10000) (lu2 : (words y2.natAbs).length ≤ 10000) (lu3 : (words d2).length ≤ 10000) (h1 : d1 ≠ 0) (h2 : x2 ≠ 0) : Calls Try.prog 33 #[.agg #[.bool (rb x1), .slice a1 (words x1.natAbs).length ac1, .bool (rb y1), .slice a2 (words y1.natAbs).length ac2, .slice a3 (words d1).length ac3], .agg #[.bool (rb x2), .slice u1 (words x2.natAbs).length uc1, .bool (rb y2), .slice u2 (words y2.natAbs).length uc2, .slice u3 (words d2).length uc3]] w (AnsRR w (dmT x1 x2 d1 d2) 1 ((dmR x1 x2 d1 d2 : Nat) : Int) (d1 * d2)) := by
  have k1 := abs_mul_len la1 (nat_abs_len lu3)
  have k2 := words_mul_length lu1 la3
  have hS : St w w [] [(u3, words d2), (u2, words y2.natAbs), (u1, words x2.natAbs), (a3, words d1), (a2, words y1.natAbs), (a1, words x1.natAbs)] [] := ((((((St.start w).addR ha1.rd).addR ha2.rd).addR ha3.rd).addR hu1.rd).addR hu2.rd).addR hu3.rd
  refine walk_of (l := [(0, .agg #[.bool ((rb x1)), .slice a1 ((words x1.natAbs).length) ac1, .bool ((rb y1)), .slice a2 ((words y1.natAbs).length) ac2, .slice a3 ((words d1).length) ac3]), (1, .agg #[.bool ((rb x2)), .slice u1 ((words x2.natAbs).length) uc1, .bool ((rb y2)), .slice u2 ((words y2.natAbs).length) uc2, .slice u3 ((words d2).length) uc3])]) Try.func33 rfl Try.ntmps33 rfl rfl ?_
  intro Q hret hnorm hP a hA
  refine wp_seq_k (fun K1 hK1 => ?_)
  refine wp_region_lit ?_
  refine seq_new (vs := [.bool ((rb x1)), .slice a1 ((words x1.natAbs).length) ac1, .bool ((rb y1)), .slice a2 ((words y1.natAbs).length) ac2, .slice a3 ((words d1).length) ac3]) (t := 48) hA hS rfl rfl rfl (fun g => .pointer (some ⟨g, 0, none⟩)) (does_box rfl rfl) rfl ?_
  intro g2 w3 hS a hA
  refine seq_new (vs := [.bool ((rb x2)), .slice u1 ((words x2.natAbs).length) uc1, .bool ((rb y2)), .slice u2 ((words y2.natAbs).length) uc2, .slice u3 ((words d2).length) uc3]) (t := 48) hA hS rfl rfl rfl (fun g => .pointer (some ⟨g, 0, none⟩)) (does_box rfl rfl) rfl ?_
  intro g4 w5 hS a hA
  refine seq_new (vs := [.bool false, .slice none 0 0, .bool false, .slice none 0 0, .slice none 0 0]) (t := 48) hA hS rfl rfl rfl (fun g => .pointer (some ⟨g, 0, none⟩)) (does_alloc (z := .agg #[.bool false, .slice none 0 0, .bool false, .slice none 0 0, .slice none 0 0]) (by kernel_rfl) rfl) rfl ?_
  intro g6 w7 hS a hA
  refine seq_new (vs := [.bool false, .slice none 0 0, .bool false, .slice none 0 0, .slice none 0 0]) (t := 48) hA hS rfl rfl rfl (fun g => .pointer (some ⟨g, 0, none⟩)) (does_alloc (z := .agg #[.bool false, .slice none 0 0, .bool false, .slice none 0 0, .slice none 0 0]) (by kernel_rfl) rfl) rfl ?_
  intro g8 w9 hS a hA
  refine seq_end ?_
  refine hK1 _ _ ?_
  refine wp_seq_k (fun K10 hK10 => ?_)
  have hJ49 : ∀ a w1, (∃ (J32g : Nat) (J33 : Option Addr) (J34 : Nat) (J35 : Option Addr) (J36 : Nat) (J37 : Option Addr) (J38 : Nat) (J39 : Option Addr) (J40 : Nat), Sl a 41 [(0, .agg #[.bool ((rb x1)), .slice a1 ((words x1.natAbs).length) ac1, .bool ((rb y1)), .slice a2 ((words y1.natAbs).length) ac2, .slice a3 ((words d1).length) ac3]), (1, .agg #[.bool ((rb x2)), .slice u1 ((words x2.natAbs).length) uc1, .bool ((rb y2)), .slice u2 ((words y2.natAbs).length) uc2, .slice u3 ((words d2).length) uc3]), (2, .pointer (some ⟨g2, 0, none⟩)), (3, .pointer (some ⟨g4, 0, none⟩)), (4, .pointer (some ⟨g6, 0, none⟩)), (5, .pointer (some ⟨g8, 0, none⟩)), (6, .pointer (some ⟨J32g, 0, none⟩)), (7, .slice J33 ((words (dmR x1 x2 d1 d2)).length) J34), (8, .tuple #[.agg #[.bool ((rb (x1 * ((d2 : Nat) : Int) / ((x2.natAbs * d1 : Nat) : Int)))), .slice J35 ((words (x1 * ((d2 : Nat) : Int) / ((x2.natAbs * d1 : Nat) : Int)).natAbs).length) J36], .slice J33 ((words (dmR x1 x2 d1 d2)).length) J34]), (9, .pointer (some ⟨g2, 0, none⟩)), (10, .agg #[.bool ((rb x1)), .slice a1 ((words x1.natAbs).length) ac1]), (11, .pointer (some ⟨g4, 4, none⟩)), (12, .slice u3 ((words d2).length) uc3), (13, .agg #[.bool ((rb (x1 * ((d2 : Nat) : Int)))), .slice J37 ((words (x1 * ((d2 : Nat) : Int)).natAbs).length) J38]), (14, .pointer (some ⟨g4, 0, none⟩)), (15, .pointer (some ⟨g4, 1, none⟩)), (16, .slice u1 ((words x2.natAbs).length) uc1), (17, .pointer (some ⟨g2, 4, none⟩)), (18, .slice a3 ((words d1).length) ac3), (19, .slice J39 ((words (x2.natAbs * d1)).length) J40), (20, .tuple #[.agg #[.bool ((rb (x1 * ((d2 : Nat) : Int) / ((x2.natAbs * d1 : Nat) : Int)))), .slice J35 ((words (x1 * ((d2 : Nat) : Int) / ((x2.natAbs * d1 : Nat) : Int)).natAbs).length) J36], .slice J33 ((words (dmR x1 x2 d1 d2)).length) J34]), (21, .agg #[.bool ((rb (x1 * ((d2 : Nat) : Int) / ((x2.natAbs * d1 : Nat) : Int)))), .slice J35 ((words (x1 * ((d2 : Nat) : Int) / ((x2.natAbs * d1 : Nat) : Int)).natAbs).length) J36]), (22, .slice J33 ((words (dmR x1 x2 d1 d2)).length) J34)] ∧ St w w1 [(J32g, [.bool ((rb (x1 * ((d2 : Nat) : Int) / ((x2.natAbs * d1 : Nat) : Int)))), .slice J35 ((words (x1 * ((d2 : Nat) : Int) / ((x2.natAbs * d1 : Nat) : Int)).natAbs).length) J36]), (g8, [.bool false, .slice none 0 0, .bool false, .slice none 0 0, .slice none 0 0]), (g6, [.bool false, .slice none 0 0, .bool false, .slice none 0 0, .slice none 0 0]), (g4, [.bool ((rb x2)), .slice u1 ((words x2.natAbs).length) uc1, .bool ((rb y2)), .slice u2 ((words y2.natAbs).length) uc2, .slice u3 ((words d2).length) uc3]), (g2, [.bool ((rb x1)), .slice a1 ((words x1.natAbs).length) ac1, .bool ((rb y1)), .slice a2 ((words y1.natAbs).length) ac2, .slice a3 ((words d1).length) ac3])] [(J33, words (dmR x1 x2 d1 d2)), (J35, words (x1 * ((d2 : Nat) : Int) / ((x2.natAbs * d1 : Nat) : Int)).natAbs), (J39, words (x2.natAbs * d1)), (J37, words (x1 * ((d2 : Nat) : Int)).natAbs), (u3, words d2), (u2, words y2.natAbs), (u1, words x2.natAbs), (a3, words d1), (a2, words y1.natAbs), (a1, words x1.natAbs)] [] ∧ (J33 = none → J34 = 0) ∧ (words (dmR x1 x2 d1 d2) : List Nat).length ≤ J34 ∧ (J35 = none → J36 = 0) ∧ (words (x1 * ((d2 : Nat) : Int) / ((x2.natAbs * d1 : Nat) : Int)).natAbs : List Nat).length ≤ J36 ∧ (J39 = none → J40 = 0) ∧ (words (x2.natAbs * d1) : List Nat).length ≤ J40 ∧ (J37 = none → J38 = 0) ∧ (words (x1 * ((d2 : Nat) : Int)).natAbs : List Nat).length ≤ J38) → K10 a w1 := by
    clear hA hS
    rintro a w50 ⟨J32g, J33, J34, J35, J36, J37, J38, J39, J40, hA, hS, hn41, hc42, hn43, hc44, hn45, hc46, hn47, hc48⟩
    refine hK10 _ _ ?_
    refine wp_seq_k (fun K51 hK51 => ?_)
    refine wp_seq_k (fun K52 hK52 => ?_)
    refine wp_region_lit ?_
    refine seq_do (v := .pointer (some ⟨g4, 0, none⟩)) hA rfl rfl rfl (does_field ExQ_fld_48_0 rfl rfl) ?_
    intro a hA
    refine seq_do (v := .pointer (some ⟨g4, 0, none⟩)) hA rfl rfl rfl (does_field ExQ_fld_46_0 rfl rfl) ?_
    intro a hA
    refine seq_do hA rfl rfl rfl (does_load1 hS ExQ_is1_4 rfl 3 rfl rfl) ?_
    intro a hA
    refine seq_end ?_
    refine hK52 _ _ ?_
    refine wp_cond_split (t := (rb x2)) (hA.ev rfl) (fun hc53 => ?_) (fun hc53 => ?_)
    · refine wp_region_lit ?_
      refine seq_do (v := .agg #[.bool ((rb (x1 * ((d2 : Nat) : Int) / ((x2.natAbs * d1 : Nat) : Int)))), .slice J35 ((words (x1 * ((d2 : Nat) : Int) / ((x2.natAbs * d1 : Nat) : Int)).natAbs).length) J36]) hA rfl rfl rfl (does_loadS hS ExQ_isS_46 rfl 0 rfl (cs := [.bool ((rb (x1 * ((d2 : Nat) : Int) / ((x2.natAbs * d1 : Nat) : Int)))), .slice J35 ((words (x1 * ((d2 : Nat) : Int) / ((x2.natAbs * d1 : Nat) : Int)).natAbs).length) J36]) rfl rfl) ?_
      intro a hA
      refine seq_call hA rfl rfl rfl (enters_func  rfl rfl (fun w => by kernel_rfl)) (zopp_any ⟨(hS.rd 1 rfl), hn43, hc44⟩) ?_
      rintro _ w58 ⟨zo54, zc55, rfl, hs56, hb57⟩
      replace hS := hS.call hb57
      replace hS := hS.addR hs56.rd
      refine ⟨_, rfl, ?_⟩
      intro a hA
      refine seq_store (us := [.bool ((rb (-(x1 * ((d2 : Nat) : Int) / ((x2.natAbs * d1 : Nat) : Int))))), .slice zo54 ((words (-(x1 * ((d2 : Nat) : Int) / ((x2.natAbs * d1 : Nat) : Int))).natAbs).length) zc55]) hA hS rfl rfl (sets_store (cs := [.bool ((rb (-(x1 * ((d2 : Nat) : Int) / ((x2.natAbs * d1 : Nat) : Int))))), .slice zo54 ((words (-(x1 * ((d2 : Nat) : Int) / ((x2.natAbs * d1 : Nat) : Int))).natAbs).length) zc55]) rfl rfl rfl (by kernel_rfl) hS 0 rfl rfl rfl) 0 rfl rfl rfl rfl ?_
      intro w59 hS
      refine seq_end ?_
      refine hK51 _ _ ?_
      refine wp_seq_k (fun K60 hK60 => ?_)
      refine wp_draw (S := fun w1 => St w w1 [(J32g, [.bool ((rb (-(x1 * ((d2 : Nat) : Int) / ((x2.natAbs * d1 : Nat) : Int))))), .slice zo54 ((words (-(x1 * ((d2 : Nat) : Int) / ((x2.natAbs * d1 : Nat) : Int))).natAbs).length) zc55]), (g8, [.bool false, .slice none 0 0, .bool false, .slice none 0 0, .slice none 0 0]), (g4, [.bool ((rb x2)), .slice u1 ((words x2.natAbs).length) uc1, .bool ((rb y2)), .slice u2 ((words y2.natAbs).length) uc2, .slice u3 ((words d2).length) uc3]), (g2, [.bool ((rb x1)), .slice a1 ((words x1.natAbs).length) ac1, .bool ((rb y1)), .slice a2 ((words y1.natAbs).length) ac2, .slice a3 ((words d1).length) ac3])] [(zo54, words (-(x1 * ((d2 : Nat) : Int) / ((x2.natAbs * d1 : Nat) : Int))).natAbs), (J33, words (dmR x1 x2 d1 d2)), (J35, words (x1 * ((d2 : Nat) : Int) / ((x2.natAbs * d1 : Nat) : Int)).natAbs), (J39, words (x2.natAbs * d1)), (J37, words (x1 * ((d2 : Nat) : Int)).natAbs), (u3, words d2), (u2, words y2.natAbs), (u1, words x2.natAbs), (a3, words d1), (a2, words y1.natAbs), (a1, words x1.natAbs)] []) (by kernel_rfl) ?_
      replace hS := hS.drew
      refine any_take (v := .agg #[.bool ((rb (-(x1 * ((d2 : Nat) : Int) / ((x2.natAbs * d1 : Nat) : Int))))), .slice zo54 ((words (-(x1 * ((d2 : Nat) : Int) / ((x2.natAbs * d1 : Nat) : Int))).natAbs).length) zc55]) hA 0 rfl rfl rfl rfl (by kernel_rfl) (by kernel_rfl) (by kernel_rfl) (fun c a w h => hP c a _ _ w h) (hS.partD (.cons_cons _ (.cons_cons _ (.cons _ (.cons_cons _ (.cons_cons _ .slnil))))) 0 rfl (.refl _)) (fun w1 hS => does_loadS hS ExQ_isS_46 rfl 0 rfl (cs := [.bool ((rb (-(x1 * ((d2 : Nat) : Int) / ((x2.natAbs * d1 : Nat) : Int))))), .slice zo54 ((words (-(x1 * ((d2 : Nat) : Int) / ((x2.natAbs * d1 : Nat) : Int))).natAbs).length) zc55]) rfl rfl) ?_
      intro a hA
      refine any_one (by kernel_rfl) (op_call hA 1 rfl rfl rfl rfl (enters_func  rfl rfl (fun w => by kernel_rfl)) (wof_any 1 _ (by decide)) ?_)
      rintro _ w65 ⟨ro61, rc62, rfl, ho63, hb64⟩
      replace hS := hS.call hb64
      replace hS := hS.addR ho63.rd
      refine ⟨_, rfl, (hS.partD (.cons_cons _ (.cons_cons _ (.cons _ (.cons_cons _ (.cons_cons _ .slnil))))) 1 rfl (.refl _)), ?_⟩
      intro a hA
      refine any_take (v := .agg #[.bool ((rb (-(x1 * ((d2 : Nat) : Int) / ((x2.natAbs * d1 : Nat) : Int))))), .slice zo54 ((words (-(x1 * ((d2 : Nat) : Int) / ((x2.natAbs * d1 : Nat) : Int))).natAbs).length) zc55, .bool false, .slice none 0 0, .slice ro61 ((words 1).length) rc62]) hA 2 rfl rfl rfl rfl (by kernel_rfl) (by kernel_rfl) (by kernel_rfl) (fun c a w h => hP c a _ _ w h) (hS.partD (.cons_cons _ (.cons_cons _ (.cons _ (.cons_cons _ (.cons_cons _ .slnil))))) 1 rfl (.refl _)) (fun w1 hS => does_build rfl (fun w => by kernel_rfl)) ?_
      intro a hA
      refine any_one (by kernel_rfl) (op_store (us := [.bool ((rb (-(x1 * ((d2 : Nat) : Int) / ((x2.natAbs * d1 : Nat) : Int))))), .slice zo54 ((words (-(x1 * ((d2 : Nat) : Int) / ((x2.natAbs * d1 : Nat) : Int))).natAbs).length) zc55, .bool false, .slice none 0 0, .slice ro61 ((words 1).length) rc62]) hA hS 3 rfl rfl rfl (sets_store (cs := [.bool ((rb (-(x1 * ((d2 : Nat) : Int) / ((x2.natAbs * d1 : Nat) : Int))))), .slice zo54 ((words (-(x1 * ((d2 : Nat) : Int) / ((x2.natAbs * d1 : Nat) : Int))).natAbs).length) zc55, .bool false, .slice none 0 0, .slice ro61 ((words 1).length) rc62]) rfl rfl rfl (by kernel_rfl) hS 2 rfl rfl rfl) 2 rfl rfl rfl rfl ?_)
      intro w66 hS
      refine ⟨(hS.partD (.cons_cons _ (.cons_cons _ (.cons _ (.cons_cons _ (.cons_cons _ .slnil))))) 1 rfl (.refl _)), ?_⟩
      refine any_end (by kernel_rfl) ?_
      refine hK60 _ _ ?_
      refine wp_seq_k (fun K67 hK67 => ?_)
      refine wp_draw (S := fun w1 => St w w1 [(J32g, [.bool ((rb (-(x1 * ((d2 : Nat) : Int) / ((x2.natAbs * d1 : Nat) : Int))))), .slice zo54 ((words (-(x1 * ((d2 : Nat) : Int) / ((x2.natAbs * d1 : Nat) : Int))).natAbs).length) zc55]), (g6, [.bool ((rb (-(x1 * ((d2 : Nat) : Int) / ((x2.natAbs * d1 : Nat) : Int))))), .slice zo54 ((words (-(x1 * ((d2 : Nat) : Int) / ((x2.natAbs * d1 : Nat) : Int))).natAbs).length) zc55, .bool false, .slice none 0 0, .slice ro61 ((words 1).length) rc62]), (g4, [.bool ((rb x2)), .slice u1 ((words x2.natAbs).length) uc1, .bool ((rb y2)), .slice u2 ((words y2.natAbs).length) uc2, .slice u3 ((words d2).length) uc3]), (g2, [.bool ((rb x1)), .slice a1 ((words x1.natAbs).length) ac1, .bool ((rb y1)), .slice a2 ((words y1.natAbs).length) ac2, .slice a3 ((words d1).length) ac3])] [(ro61, words 1), (zo54, words (-(x1 * ((d2 : Nat) : Int) / ((x2.natAbs * d1 : Nat) : Int))).natAbs), (J33, words (dmR x1 x2 d1 d2)), (J35, words (x1 * ((d2 : Nat) : Int) / ((x2.natAbs * d1 : Nat) : Int)).natAbs), (J39, words (x2.natAbs * d1)), (J37, words (x1 * ((d2 : Nat) : Int)).natAbs), (u3, words d2), (u2, words y2.natAbs), (u1, words x2.natAbs), (a3, words d1), (a2, words y1.natAbs), (a1, words x1.natAbs)] []) (by kernel_rfl) ?_
      replace hS := hS.drew
      refine any_take hA 0 rfl rfl rfl rfl (by kernel_rfl) (by kernel_rfl) (by kernel_rfl) (fun c a w h => hP c a _ _ w h) (hS.partD (.cons_cons _ (.cons _ (.cons_cons _ (.cons_cons _ (.cons_cons _ .slnil))))) 0 rfl (.refl _)) (fun w1 hS => does_move rfl) ?_
      intro a hA
      refine any_take (v := .pointer (some ⟨g2, 4, none⟩)) hA 2 rfl rfl rfl rfl (by kernel_rfl) (by kernel_rfl) (by kernel_rfl) (fun c a w h => hP c a _ _ w h) (hS.partD (.cons_cons _ (.cons _ (.cons_cons _ (.cons_cons _ (.cons_cons _ .slnil))))) 0 rfl (.refl _)) (fun w1 hS => does_field ExQ_fld_48_2 rfl rfl) ?_
      intro a hA
      refine any_take hA 3 rfl rfl rfl rfl (by kernel_rfl) (by kernel_rfl) (by kernel_rfl) (fun c a w h => hP c a _ _ w h) (hS.partD (.cons_cons _ (.cons _ (.cons_cons _ (.cons_cons _ (.cons_cons _ .slnil))))) 0 rfl (.refl _)) (fun w1 hS => does_load1 hS ExQ_is1_22 rfl 3 rfl rfl) ?_
      intro a hA
      refine any_take (v := .pointer (some ⟨g4, 4, none⟩)) hA 4 rfl rfl rfl rfl (by kernel_rfl) (by kernel_rfl) (by kernel_rfl) (fun c a w h => hP c a _ _ w h) (hS.partD (.cons_cons _ (.cons _ (.cons_cons _ (.cons_cons _ (.cons_cons _ .slnil))))) 0 rfl (.refl _)) (fun w1 hS => does_field ExQ_fld_48_2 rfl rfl) ?_
      intro a hA
      refine any_take hA 5 rfl rfl rfl rfl (by kernel_rfl) (by kernel_rfl) (by kernel_rfl) (fun c a w h => hP c a _ _ w h) (hS.partD (.cons_cons _ (.cons _ (.cons_cons _ (.cons_cons _ (.cons_cons _ .slnil))))) 0 rfl (.refl _)) (fun w1 hS => does_load1 hS ExQ_is1_22 rfl 2 rfl rfl) ?_
      intro a hA
      refine any_one (by kernel_rfl) (op_call hA 1 rfl rfl rfl rfl (enters_func  rfl rfl (fun w => by kernel_rfl)) (zsigned_any (b := false) (n := dmR x1 x2 d1 d2) (z := ((dmR x1 x2 d1 d2 : Nat) : Int)) ⟨(hS.rd 2 rfl), hn41, hc42⟩ rfl) ?_)
      rintro _ w72 ⟨zo68, zc69, rfl, hs70, hb71⟩
      replace hS := hS.call hb71
      replace hS := hS.addR hs70.rd
      refine ⟨_, rfl, (hS.partD (.cons_cons _ (.cons _ (.cons_cons _ (.cons_cons _ (.cons_cons _ .slnil))))) 1 rfl (.refl _)), ?_⟩
      intro a hA
      refine any_one (by kernel_rfl) (op_call hA 6 rfl rfl rfl rfl (enters_func  rfl rfl (fun w => by kernel_rfl)) (product_any _ _ (hS.rd 10 rfl) (hS.rd 7 rfl) (by omega) (by omega)) ?_)
      rintro _ w77 ⟨ro73, rc74, rfl, ho75, hb76⟩
      replace hS := hS.call hb76
      replace hS := hS.addR ho75.rd
      refine ⟨_, rfl, (hS.partD (.cons_cons _ (.cons _ (.cons_cons _ (.cons_cons _ (.cons_cons _ .slnil))))) 2 rfl (.refl _)), ?_⟩
      intro a hA
      refine any_take (v := .agg #[.bool ((rb (((dmR x1 x2 d1 d2 : Nat) : Int)))), .slice zo68 ((words (((dmR x1 x2 d1 d2 : Nat) : Int)).natAbs).length) zc69, .bool false, .slice none 0 0, .slice ro73 ((words (d1 * d2)).length) rc74]) hA 7 rfl rfl rfl rfl (by kernel_rfl) (by kernel_rfl) (by kernel_rfl) (fun c a w h => hP c a _ _ w h) (hS.partD (.cons_cons _ (.cons _ (.cons_cons _ (.cons_cons _ (.cons_cons _ .slnil))))) 2 rfl (.refl _)) (fun w1 hS => does_build rfl (fun w => by kernel_rfl)) ?_
      intro a hA
      refine any_one (by kernel_rfl) (op_store (us := [.bool ((rb (((dmR x1 x2 d1 d2 : Nat) : Int)))), .slice zo68 ((words (((dmR x1 x2 d1 d2 : Nat) : Int)).natAbs).length) zc69, .bool false, .slice none 0 0, .slice ro73 ((words (d1 * d2)).length) rc74]) hA hS 8 rfl rfl rfl (sets_store (cs := [.bool ((rb (((dmR x1 x2 d1 d2 : Nat) : Int)))), .slice zo68 ((words (((dmR x1 x2 d1 d2 : Nat) : Int)).natAbs).length) zc69, .bool false, .slice none 0 0, .slice ro73 ((words (d1 * d2)).length) rc74]) rfl rfl rfl (by kernel_rfl) hS 1 rfl rfl rfl) 1 rfl rfl rfl rfl ?_)
      intro w78 hS
      refine ⟨(hS.partD (.cons_cons _ (.cons _ (.cons_cons _ (.cons_cons _ (.cons_cons _ .slnil))))) 2 rfl (.refl _)), ?_⟩
      refine any_end (by kernel_rfl) ?_
      refine hK67 _ _ ?_
      refine wp_seq_k (fun K79 hK79 => ?_)
      refine wp_draw (S := fun w1 => St w w1 [(J32g, [.bool ((rb (-(x1 * ((d2 : Nat) : Int) / ((x2.natAbs * d1 : Nat) : Int))))), .slice zo54 ((words (-(x1 * ((d2 : Nat) : Int) / ((x2.natAbs * d1 : Nat) : Int))).natAbs).length) zc55]), (g8, [.bool ((rb (((dmR x1 x2 d1 d2 : Nat) : Int)))), .slice zo68 ((words (((dmR x1 x2 d1 d2 : Nat) : Int)).natAbs).length) zc69, .bool false, .slice none 0 0, .slice ro73 ((words (d1 * d2)).length) rc74]), (g6, [.bool ((rb (-(x1 * ((d2 : Nat) : Int) / ((x2.natAbs * d1 : Nat) : Int))))), .slice zo54 ((words (-(x1 * ((d2 : Nat) : Int) / ((x2.natAbs * d1 : Nat) : Int))).natAbs).length) zc55, .bool false, .slice none 0 0, .slice ro61 ((words 1).length) rc62]), (g4, [.bool ((rb x2)), .slice u1 ((words x2.natAbs).length) uc1, .bool ((rb y2)), .slice u2 ((words y2.natAbs).length) uc2, .slice u3 ((words d2).length) uc3]), (g2, [.bool ((rb x1)), .slice a1 ((words x1.natAbs).length) ac1, .bool ((rb y1)), .slice a2 ((words y1.natAbs).length) ac2, .slice a3 ((words d1).length) ac3])] [(ro73, words (d1 * d2)), (zo68, words (((dmR x1 x2 d1 d2 : Nat) : Int)).natAbs), (ro61, words 1), (zo54, words (-(x1 * ((d2 : Nat) : Int) / ((x2.natAbs * d1 : Nat) : Int))).natAbs), (J33, words (dmR x1 x2 d1 d2)), (J35, words (x1 * ((d2 : Nat) : Int) / ((x2.natAbs * d1 : Nat) : Int)).natAbs), (J39, words (x2.natAbs * d1)), (J37, words (x1 * ((d2 : Nat) : Int)).natAbs), (u3, words d2), (u2, words y2.natAbs), (u1, words x2.natAbs), (a3, words d1), (a2, words y1.natAbs), (a1, words x1.natAbs)] []) (by kernel_rfl) ?_
      replace hS := hS.drew
      refine any_take (v := .agg #[.bool ((rb (-(x1 * ((d2 : Nat) : Int) / ((x2.natAbs * d1 : Nat) : Int))))), .slice zo54 ((words (-(x1 * ((d2 : Nat) : Int) / ((x2.natAbs * d1 : Nat) : Int))).natAbs).length) zc55, .bool false, .slice none 0 0, .slice ro61 ((words 1).length) rc62]) hA 0 rfl rfl rfl rfl (by kernel_rfl) (by kernel_rfl) (by kernel_rfl) (fun c a w h => hP c a _ _ w h) hS (fun w1 hS => does_loadS hS ExQ_isS_48 rfl 2 rfl (cs := [.bool ((rb (-(x1 * ((d2 : Nat) : Int) / ((x2.natAbs * d1 : Nat) : Int))))), .slice zo54 ((words (-(x1 * ((d2 : Nat) : Int) / ((x2.natAbs * d1 : Nat) : Int))).natAbs).length) zc55, .bool false, .slice none 0 0, .slice ro61 ((words 1).length) rc62]) rfl rfl) ?_
      intro a hA
      refine any_take (v := .agg #[.bool ((rb (((dmR x1 x2 d1 d2 : Nat) : Int)))), .slice zo68 ((words (((dmR x1 x2 d1 d2 : Nat) : Int)).natAbs).length) zc69, .bool false, .slice none 0 0, .slice ro73 ((words (d1 * d2)).length) rc74]) hA 1 rfl rfl rfl rfl (by kernel_rfl) (by kernel_rfl) (by kernel_rfl) (fun c a w h => hP c a _ _ w h) hS (fun w1 hS => does_loadS hS ExQ_isS_48 rfl 1 rfl (cs := [.bool ((rb (((dmR x1 x2 d1 d2 : Nat) : Int)))), .slice zo68 ((words (((dmR x1 x2 d1 d2 : Nat) : Int)).natAbs).length) zc69, .bool false, .slice none 0 0, .slice ro73 ((words (d1 * d2)).length) rc74]) rfl rfl) ?_
      intro a hA
      refine any_one (by kernel_rfl) (op_store (us := [.bool ((rb (-(x1 * ((d2 : Nat) : Int) / ((x2.natAbs * d1 : Nat) : Int))))), .slice zo54 ((words (-(x1 * ((d2 : Nat) : Int) / ((x2.natAbs * d1 : Nat) : Int))).natAbs).length) zc55, .bool false, .slice none 0 0, .slice ro61 ((words 1).length) rc62]) hA hS 2 rfl rfl rfl (sets_store (cs := [.bool ((rb (-(x1 * ((d2 : Nat) : Int) / ((x2.natAbs * d1 : Nat) : Int))))), .slice zo54 ((words (-(x1 * ((d2 : Nat) : Int) / ((x2.natAbs * d1 : Nat) : Int))).natAbs).length) zc55, .bool false, .slice none 0 0, .slice ro61 ((words 1).length) rc62]) rfl rfl rfl (by kernel_rfl) hS 2 rfl rfl rfl) 2 rfl rfl rfl rfl ?_)
      intro w80 hS
      refine ⟨hS, ?_⟩
      refine any_one (by kernel_rfl) (op_store (us := [.bool ((rb (((dmR x1 x2 d1 d2 : Nat) : Int)))), .slice zo68 ((words (((dmR x1 x2 d1 d2 : Nat) : Int)).natAbs).length) zc69, .bool false, .slice none 0 0, .slice ro73 ((words (d1 * d2)).length) rc74]) hA hS 3 rfl rfl rfl (sets_store (cs := [.bool ((rb (((dmR x1 x2 d1 d2 : Nat) : Int)))), .slice zo68 ((words (((dmR x1 x2 d1 d2 : Nat) : Int)).natAbs).length) zc69, .bool false, .slice none 0 0, .slice ro73 ((words (d1 * d2)).length) rc74]) rfl rfl rfl (by kernel_rfl) hS 1 rfl rfl rfl) 1 rfl rfl rfl rfl ?_)
      intro w81 hS
      refine ⟨hS, ?_⟩
      refine any_end (by kernel_rfl) ?_
      refine hK79 _ _ ?_
      refine wp_ret ?_
      refine hret _ _ ?_
      refine ends (v := .tuple #[.agg #[.bool ((rb (-(x1 * ((d2 : Nat) : Int) / ((x2.natAbs * d1 : Nat) : Int))))), .slice zo54 ((words (-(x1 * ((d2 : Nat) : Int) / ((x2.natAbs * d1 : Nat) : Int))).natAbs).length) zc55, .bool false, .slice none 0 0, .slice ro61 ((words 1).length) rc62], .agg #[.bool ((rb (((dmR x1 x2 d1 d2 : Nat) : Int)))), .slice zo68 ((words (((dmR x1 x2 d1 d2 : Nat) : Int)).natAbs).length) zc69, .bool false, .slice none 0 0, .slice ro73 ((words (d1 * d2)).length) rc74]]) hA rfl (.cons (res_cell hS ExQ_isS_48 rfl 2 rfl (cs := [.bool ((rb (-(x1 * ((d2 : Nat) : Int) / ((x2.natAbs * d1 : Nat) : Int))))), .slice zo54 ((words (-(x1 * ((d2 : Nat) : Int) / ((x2.natAbs * d1 : Nat) : Int))).natAbs).length) zc55, .bool false, .slice none 0 0, .slice ro61 ((words 1).length) rc62]) rfl rfl) (.cons (res_cell hS ExQ_isS_48 rfl 1 rfl (cs := [.bool ((rb (((dmR x1 x2 d1 d2 : Nat) : Int)))), .slice zo68 ((words (((dmR x1 x2 d1 d2 : Nat) : Int)).natAbs).length) zc69, .bool false, .slice none 0 0, .slice ro73 ((words (d1 * d2)).length) rc74]) rfl rfl) .nil)) rfl ?_
      rw [show dmT x1 x2 d1 d2 = -(x1 * ((d2 : Nat) : Int) / ((x2.natAbs * d1 : Nat) : Int)) from if_pos hc53]
      exact ⟨zo54, zc55, ro61, rc62, zo68, zc69, ro73, rc74, rfl, ⟨(hS.rd 3 rfl), hs56.nil, hs56.cap⟩, ⟨(hS.rd 2 rfl), ho63.nocap, ho63.caps⟩, ⟨(hS.rd 1 rfl), hs70.nil, hs70.cap⟩, ⟨(hS.rd 0 rfl), ho75.nocap, ho75.caps⟩, hS.bel⟩
    · refine wp_skip ?_
      refine hK51 _ _ ?_
      refine wp_seq_k (fun K82 hK82 => ?_)
      refine wp_draw (S := fun w1 => St w w1 [(J32g, [.bool ((rb (x1 * ((d2 : Nat) : Int) / ((x2.natAbs * d1 : Nat) : Int)))), .slice J35 ((words (x1 * ((d2 : Nat) : Int) / ((x2.natAbs * d1 : Nat) : Int)).natAbs).length) J36]), (g8, [.bool false, .slice none 0 0, .bool false, .slice none 0 0, .slice none 0 0]), (g4, [.bool ((rb x2)), .slice u1 ((words x2.natAbs).length) uc1, .bool ((rb y2)), .slice u2 ((words y2.natAbs).length) uc2, .slice u3 ((words d2).length) uc3]), (g2, [.bool ((rb x1)), .slice a1 ((words x1.natAbs).length) ac1, .bool ((rb y1)), .slice a2 ((words y1.natAbs).length) ac2, .slice a3 ((words d1).length) ac3])] [(J33, words (dmR x1 x2 d1 d2)), (J35, words (x1 * ((d2 : Nat) : Int) / ((x2.natAbs * d1 : Nat) : Int)).natAbs), (J39, words (x2.natAbs * d1)), (J37, words (x1 * ((d2 : Nat) : Int)).natAbs), (u3, words d2), (u2, words y2.natAbs), (u1, words x2.natAbs), (a3, words d1), (a2, words y1.natAbs), (a1, words x1.natAbs)] []) (by kernel_rfl) ?_
      replace hS := hS.drew
      refine any_take (v := .agg #[.bool ((rb (x1 * ((d2 : Nat) : Int) / ((x2.natAbs * d1 : Nat) : Int)))), .slice J35 ((words (x1 * ((d2 : Nat) : Int) / ((x2.natAbs * d1 : Nat) : Int)).natAbs).length) J36]) hA 0 rfl rfl rfl rfl (by kernel_rfl) (by kernel_rfl) (by kernel_rfl) (fun c a w h => hP c a _ _ w h) (hS.partD (.cons_cons _ (.cons_cons _ (.cons _ (.cons_cons _ (.cons_cons _ .slnil))))) 0 rfl (.refl _)) (fun w1 hS => does_loadS hS ExQ_isS_46 rfl 0 rfl (cs := [.bool ((rb (x1 * ((d2 : Nat) : Int) / ((x2.natAbs * d1 : Nat) : Int)))), .slice J35 ((words (x1 * ((d2 : Nat) : Int) / ((x2.natAbs * d1 : Nat) : Int)).natAbs).length) J36]) rfl rfl) ?_
      intro a hA
      refine any_one (by kernel_rfl) (op_call hA 1 rfl rfl rfl rfl (enters_func  rfl rfl (fun w => by kernel_rfl)) (wof_any 1 _ (by decide)) ?_)
      rintro _ w87 ⟨ro83, rc84, rfl, ho85, hb86⟩
      replace hS := hS.call hb86
      replace hS := hS.addR ho85.rd
      refine ⟨_, rfl, (hS.partD (.cons_cons _ (.cons_cons _ (.cons _ (.cons_cons _ (.cons_cons _ .slnil))))) 1 rfl (.refl _)), ?_⟩
      intro a hA
      refine any_take (v := .agg #[.bool ((rb (x1 * ((d2 : Nat) : Int) / ((x2.natAbs * d1 : Nat) : Int)))), .slice J35 ((words (x1 * ((d2 : Nat) : Int) / ((x2.natAbs * d1 : Nat) : Int)).natAbs).length) J36, .bool false, .slice none 0 0, .slice ro83 ((words 1).length) rc84]) hA 2 rfl rfl rfl rfl (by kernel_rfl) (by kernel_rfl) (by kernel_rfl) (fun c a w h => hP c a _ _ w h) (hS.partD (.cons_cons _ (.cons_cons _ (.cons _ (.cons_cons _ (.cons_cons _ .slnil))))) 1 rfl (.refl _)) (fun w1 hS => does_build rfl (fun w => by kernel_rfl)) ?_
      intro a hA
      refine any_one (by kernel_rfl) (op_store (us := [.bool ((rb (x1 * ((d2 : Nat) : Int) / ((x2.natAbs * d1 : Nat) : Int)))), .slice J35 ((words (x1 * ((d2 : Nat) : Int) / ((x2.natAbs * d1 : Nat) : Int)).natAbs).length) J36, .bool false, .slice none 0 0, .slice ro83 ((words 1).length) rc84]) hA hS 3 rfl rfl rfl (sets_store (cs := [.bool ((rb (x1 * ((d2 : Nat) : Int) / ((x2.natAbs * d1 : Nat) : Int)))), .slice J35 ((words (x1 * ((d2 : Nat) : Int) / ((x2.natAbs * d1 : Nat) : Int)).natAbs).length) J36, .bool false, .slice none 0 0, .slice ro83 ((words 1).length) rc84]) rfl rfl rfl (by kernel_rfl) hS 2 rfl rfl rfl) 2 rfl rfl rfl rfl ?_)
      intro w88 hS
      refine ⟨(hS.partD (.cons_cons _ (.cons_cons _ (.cons _ (.cons_cons _ (.cons_cons _ .slnil))))) 1 rfl (.refl _)), ?_⟩
      refine any_end (by kernel_rfl) ?_
      refine hK82 _ _ ?_
      refine wp_seq_k (fun K89 hK89 => ?_)
      refine wp_draw (S := fun w1 => St w w1 [(J32g, [.bool ((rb (x1 * ((d2 : Nat) : Int) / ((x2.natAbs * d1 : Nat) : Int)))), .slice J35 ((words (x1 * ((d2 : Nat) : Int) / ((x2.natAbs * d1 : Nat) : Int)).natAbs).length) J36]), (g6, [.bool ((rb (x1 * ((d2 : Nat) : Int) / ((x2.natAbs * d1 : Nat) : Int)))), .slice J35 ((words (x1 * ((d2 : Nat) : Int) / ((x2.natAbs * d1 : Nat) : Int)).natAbs).length) J36, .bool false, .slice none 0 0, .slice ro83 ((words 1).length) rc84]), (g4, [.bool ((rb x2)), .slice u1 ((words x2.natAbs).length) uc1, .bool ((rb y2)), .slice u2 ((words y2.natAbs).length) uc2, .slice u3 ((words d2).length) uc3]), (g2, [.bool ((rb x1)), .slice a1 ((words x1.natAbs).length) ac1, .bool ((rb y1)), .slice a2 ((words y1.natAbs).length) ac2, .slice a3 ((words d1).length) ac3])] [(ro83, words 1), (J33, words (dmR x1 x2 d1 d2)), (J35, words (x1 * ((d2 : Nat) : Int) / ((x2.natAbs * d1 : Nat) : Int)).natAbs), (J39, words (x2.natAbs * d1)), (J37, words (x1 * ((d2 : Nat) : Int)).natAbs), (u3, words d2), (u2, words y2.natAbs), (u1, words x2.natAbs), (a3, words d1), (a2, words y1.natAbs), (a1, words x1.natAbs)] []) (by kernel_rfl) ?_
      replace hS := hS.drew
      refine any_take hA 0 rfl rfl rfl rfl (by kernel_rfl) (by kernel_rfl) (by kernel_rfl) (fun c a w h => hP c a _ _ w h) (hS.partD (.cons_cons _ (.cons _ (.cons_cons _ (.cons_cons _ (.cons_cons _ .slnil))))) 0 rfl (.refl _)) (fun w1 hS => does_move rfl) ?_
      intro a hA
      refine any_take (v := .pointer (some ⟨g2, 4, none⟩)) hA 2 rfl rfl rfl rfl (by kernel_rfl) (by kernel_rfl) (by kernel_rfl) (fun c a w h => hP c a _ _ w h) (hS.partD (.cons_cons _ (.cons _ (.cons_cons _ (.cons_cons _ (.cons_cons _ .slnil))))) 0 rfl (.refl _)) (fun w1 hS => does_field ExQ_fld_48_2 rfl rfl) ?_
      intro a hA
      refine any_take hA 3 rfl rfl rfl rfl (by kernel_rfl) (by kernel_rfl) (by kernel_rfl) (fun c a w h => hP c a _ _ w h) (hS.partD (.cons_cons _ (.cons _ (.cons_cons _ (.cons_cons _ (.cons_cons _ .slnil))))) 0 rfl (.refl _)) (fun w1 hS => does_load1 hS ExQ_is1_22 rfl 3 rfl rfl) ?_
      intro a hA
      refine any_take (v := .pointer (some ⟨g4, 4, none⟩)) hA 4 rfl rfl rfl rfl (by kernel_rfl) (by kernel_rfl) (by kernel_rfl) (fun c a w h => hP c a _ _ w h) (hS.partD (.cons_cons _ (.cons _ (.cons_cons _ (.cons_cons _ (.cons_cons _ .slnil))))) 0 rfl (.refl _)) (fun w1 hS => does_field ExQ_fld_48_2 rfl rfl) ?_
      intro a hA
      refine any_take hA 5 rfl rfl rfl rfl (by kernel_rfl) (by kernel_rfl) (by kernel_rfl) (fun c a w h => hP c a _ _ w h) (hS.partD (.cons_cons _ (.cons _ (.cons_cons _ (.cons_cons _ (.cons_cons _ .slnil))))) 0 rfl (.refl _)) (fun w1 hS => does_load1 hS ExQ_is1_22 rfl 2 rfl rfl) ?_
      intro a hA
      refine any_one (by kernel_rfl) (op_call hA 1 rfl rfl rfl rfl (enters_func  rfl rfl (fun w => by kernel_rfl)) (zsigned_any (b := false) (n := dmR x1 x2 d1 d2) (z := ((dmR x1 x2 d1 d2 : Nat) : Int)) ⟨(hS.rd 1 rfl), hn41, hc42⟩ rfl) ?_)
      rintro _ w94 ⟨zo90, zc91, rfl, hs92, hb93⟩
      replace hS := hS.call hb93
      replace hS := hS.addR hs92.rd
      refine ⟨_, rfl, (hS.partD (.cons_cons _ (.cons _ (.cons_cons _ (.cons_cons _ (.cons_cons _ .slnil))))) 1 rfl (.refl _)), ?_⟩
      intro a hA
      refine any_one (by kernel_rfl) (op_call hA 6 rfl rfl rfl rfl (enters_func  rfl rfl (fun w => by kernel_rfl)) (product_any _ _ (hS.rd 9 rfl) (hS.rd 6 rfl) (by omega) (by omega)) ?_)
      rintro _ w99 ⟨ro95, rc96, rfl, ho97, hb98⟩
      replace hS := hS.call hb98
      replace hS := hS.addR ho97.rd
      refine ⟨_, rfl, (hS.partD (.cons_cons _ (.cons _ (.cons_cons _ (.cons_cons _ (.cons_cons _ .slnil))))) 2 rfl (.refl _)), ?_⟩
      intro a hA
      refine any_take (v := .agg #[.bool ((rb (((dmR x1 x2 d1 d2 : Nat) : Int)))), .slice zo90 ((words (((dmR x1 x2 d1 d2 : Nat) : Int)).natAbs).length) zc91, .bool false, .slice none 0 0, .slice ro95 ((words (d1 * d2)).length) rc96]) hA 7 rfl rfl rfl rfl (by kernel_rfl) (by kernel_rfl) (by kernel_rfl) (fun c a w h => hP c a _ _ w h) (hS.partD (.cons_cons _ (.cons _ (.cons_cons _ (.cons_cons _ (.cons_cons _ .slnil))))) 2 rfl (.refl _)) (fun w1 hS => does_build rfl (fun w => by kernel_rfl)) ?_
      intro a hA
      refine any_one (by kernel_rfl) (op_store (us := [.bool ((rb (((dmR x1 x2 d1 d2 : Nat) : Int)))), .slice zo90 ((words (((dmR x1 x2 d1 d2 : Nat) : Int)).natAbs).length) zc91, .bool false, .slice none 0 0, .slice ro95 ((words (d1 * d2)).length) rc96]) hA hS 8 rfl rfl rfl (sets_store (cs := [.bool ((rb (((dmR x1 x2 d1 d2 : Nat) : Int)))), .slice zo90 ((words (((dmR x1 x2 d1 d2 : Nat) : Int)).natAbs).length) zc91, .bool false, .slice none 0 0, .slice ro95 ((words (d1 * d2)).length) rc96]) rfl rfl rfl (by kernel_rfl) hS 1 rfl rfl rfl) 1 rfl rfl rfl rfl ?_)
      intro w100 hS
      refine ⟨(hS.partD (.cons_cons _ (.cons _ (.cons_cons _ (.cons_cons _ (.cons_cons _ .slnil))))) 2 rfl (.refl _)), ?_⟩
      refine any_end (by kernel_rfl) ?_
      refine hK89 _ _ ?_
      refine wp_seq_k (fun K101 hK101 => ?_)
      refine wp_draw (S := fun w1 => St w w1 [(J32g, [.bool ((rb (x1 * ((d2 : Nat) : Int) / ((x2.natAbs * d1 : Nat) : Int)))), .slice J35 ((words (x1 * ((d2 : Nat) : Int) / ((x2.natAbs * d1 : Nat) : Int)).natAbs).length) J36]), (g8, [.bool ((rb (((dmR x1 x2 d1 d2 : Nat) : Int)))), .slice zo90 ((words (((dmR x1 x2 d1 d2 : Nat) : Int)).natAbs).length) zc91, .bool false, .slice none 0 0, .slice ro95 ((words (d1 * d2)).length) rc96]), (g6, [.bool ((rb (x1 * ((d2 : Nat) : Int) / ((x2.natAbs * d1 : Nat) : Int)))), .slice J35 ((words (x1 * ((d2 : Nat) : Int) / ((x2.natAbs * d1 : Nat) : Int)).natAbs).length) J36, .bool false, .slice none 0 0, .slice ro83 ((words 1).length) rc84]), (g4, [.bool ((rb x2)), .slice u1 ((words x2.natAbs).length) uc1, .bool ((rb y2)), .slice u2 ((words y2.natAbs).length) uc2, .slice u3 ((words d2).length) uc3]), (g2, [.bool ((rb x1)), .slice a1 ((words x1.natAbs).length) ac1, .bool ((rb y1)), .slice a2 ((words y1.natAbs).length) ac2, .slice a3 ((words d1).length) ac3])] [(ro95, words (d1 * d2)), (zo90, words (((dmR x1 x2 d1 d2 : Nat) : Int)).natAbs), (ro83, words 1), (J33, words (dmR x1 x2 d1 d2)), (J35, words (x1 * ((d2 : Nat) : Int) / ((x2.natAbs * d1 : Nat) : Int)).natAbs), (J39, words (x2.natAbs * d1)), (J37, words (x1 * ((d2 : Nat) : Int)).natAbs), (u3, words d2), (u2, words y2.natAbs), (u1, words x2.natAbs), (a3, words d1), (a2, words y1.natAbs), (a1, words x1.natAbs)] []) (by kernel_rfl) ?_
      replace hS := hS.drew
      refine any_take (v := .agg #[.bool ((rb (x1 * ((d2 : Nat) : Int) / ((x2.natAbs * d1 : Nat) : Int)))), .slice J35 ((words (x1 * ((d2 : Nat) : Int) / ((x2.natAbs * d1 : Nat) : Int)).natAbs).length) J36, .bool false, .slice none 0 0, .slice ro83 ((words 1).length) rc84]) hA 0 rfl rfl rfl rfl (by kernel_rfl) (by kernel_rfl) (by kernel_rfl) (fun c a w h => hP c a _ _ w h) hS (fun w1 hS => does_loadS hS ExQ_isS_48 rfl 2 rfl (cs := [.bool ((rb (x1 * ((d2 : Nat) : Int) / ((x2.natAbs * d1 : Nat) : Int)))), .slice J35 ((words (x1 * ((d2 : Nat) : Int) / ((x2.natAbs * d1 : Nat) : Int)).natAbs).length) J36, .bool false, .slice none 0 0, .slice ro83 ((words 1).length) rc84]) rfl rfl) ?_
      intro a hA
      refine any_take (v := .agg #[.bool ((rb (((dmR x1 x2 d1 d2 : Nat) : Int)))), .slice zo90 ((words (((dmR x1 x2 d1 d2 : Nat) : Int)).natAbs).length) zc91, .bool false, .slice none 0 0, .slice ro95 ((words (d1 * d2)).length) rc96]) hA 1 rfl rfl rfl rfl (by kernel_rfl) (by kernel_rfl) (by kernel_rfl) (fun c a w h => hP c a _ _ w h) hS (fun w1 hS => does_loadS hS ExQ_isS_48 rfl 1 rfl (cs := [.bool ((rb (((dmR x1 x2 d1 d2 : Nat) : Int)))), .slice zo90 ((words (((dmR x1 x2 d1 d2 : Nat) : Int)).natAbs).length) zc91, .bool false, .slice none 0 0, .slice ro95 ((words (d1 * d2)).length) rc96]) rfl rfl) ?_
      intro a hA
      refine any_one (by kernel_rfl) (op_store (us := [.bool ((rb (x1 * ((d2 : Nat) : Int) / ((x2.natAbs * d1 : Nat) : Int)))), .slice J35 ((words (x1 * ((d2 : Nat) : Int) / ((x2.natAbs * d1 : Nat) : Int)).natAbs).length) J36, .bool false, .slice none 0 0, .slice ro83 ((words 1).length) rc84]) hA hS 2 rfl rfl rfl (sets_store (cs := [.bool ((rb (x1 * ((d2 : Nat) : Int) / ((x2.natAbs * d1 : Nat) : Int)))), .slice J35 ((words (x1 * ((d2 : Nat) : Int) / ((x2.natAbs * d1 : Nat) : Int)).natAbs).length) J36, .bool false, .slice none 0 0, .slice ro83 ((words 1).length) rc84]) rfl rfl rfl (by kernel_rfl) hS 2 rfl rfl rfl) 2 rfl rfl rfl rfl ?_)
      intro w102 hS
      refine ⟨hS, ?_⟩
      refine any_one (by kernel_rfl) (op_store (us := [.bool ((rb (((dmR x1 x2 d1 d2 : Nat) : Int)))), .slice zo90 ((words (((dmR x1 x2 d1 d2 : Nat) : Int)).natAbs).length) zc91, .bool false, .slice none 0 0, .slice ro95 ((words (d1 * d2)).length) rc96]) hA hS 3 rfl rfl rfl (sets_store (cs := [.bool ((rb (((dmR x1 x2 d1 d2 : Nat) : Int)))), .slice zo90 ((words (((dmR x1 x2 d1 d2 : Nat) : Int)).natAbs).length) zc91, .bool false, .slice none 0 0, .slice ro95 ((words (d1 * d2)).length) rc96]) rfl rfl rfl (by kernel_rfl) hS 1 rfl rfl rfl) 1 rfl rfl rfl rfl ?_)
      intro w103 hS
      refine ⟨hS, ?_⟩
      refine any_end (by kernel_rfl) ?_
      refine hK101 _ _ ?_
      refine wp_ret ?_
      refine hret _ _ ?_
      refine ends (v := .tuple #[.agg #[.bool ((rb (x1 * ((d2 : Nat) : Int) / ((x2.natAbs * d1 : Nat) : Int)))), .slice J35 ((words (x1 * ((d2 : Nat) : Int) / ((x2.natAbs * d1 : Nat) : Int)).natAbs).length) J36, .bool false, .slice none 0 0, .slice ro83 ((words 1).length) rc84], .agg #[.bool ((rb (((dmR x1 x2 d1 d2 : Nat) : Int)))), .slice zo90 ((words (((dmR x1 x2 d1 d2 : Nat) : Int)).natAbs).length) zc91, .bool false, .slice none 0 0, .slice ro95 ((words (d1 * d2)).length) rc96]]) hA rfl (.cons (res_cell hS ExQ_isS_48 rfl 2 rfl (cs := [.bool ((rb (x1 * ((d2 : Nat) : Int) / ((x2.natAbs * d1 : Nat) : Int)))), .slice J35 ((words (x1 * ((d2 : Nat) : Int) / ((x2.natAbs * d1 : Nat) : Int)).natAbs).length) J36, .bool false, .slice none 0 0, .slice ro83 ((words 1).length) rc84]) rfl rfl) (.cons (res_cell hS ExQ_isS_48 rfl 1 rfl (cs := [.bool ((rb (((dmR x1 x2 d1 d2 : Nat) : Int)))), .slice zo90 ((words (((dmR x1 x2 d1 d2 : Nat) : Int)).natAbs).length) zc91, .bool false, .slice none 0 0, .slice ro95 ((words (d1 * d2)).length) rc96]) rfl rfl) .nil)) rfl ?_
      rw [show dmT x1 x2 d1 d2 = x1 * ((d2 : Nat) : Int) / ((x2.natAbs * d1 : Nat) : Int) from if_neg (by rw [hc53]; decide)]
      exact ⟨J35, J36, ro83, rc84, zo90, zc91, ro95, rc96, rfl, ⟨(hS.rd 4 rfl), hn43, hc44⟩, ⟨(hS.rd 2 rfl), ho85.nocap, ho85.caps⟩, ⟨(hS.rd 1 rfl), hs92.nil, hs92.cap⟩, ⟨(hS.rd 0 rfl), ho97.nocap, ho97.caps⟩, hS.bel⟩
  refine wp_draw (S := fun w1 => St w w1 [(g8, [.bool false, .slice none 0 0, .bool false, .slice none 0 0, .slice none 0 0]), (g6, [.bool false, .slice none 0 0, .bool false, .slice none 0 0, .slice none 0 0]), (g4, [.bool ((rb x2)), .slice u1 ((words x2.natAbs).length) uc1, .bool ((rb y2)), .slice u2 ((words y2.natAbs).length) uc2, .slice u3 ((words d2).length) uc3]), (g2, [.bool ((rb x1)), .slice a1 ((words x1.natAbs).length) ac1, .bool ((rb y1)), .slice a2 ((words y1.natAbs).length) ac2, .slice a3 ((words d1).length) ac3])] [(u3, words d2), (u2, words y2.natAbs), (u1, words x2.natAbs), (a3, words d1), (a2, words y1.natAbs), (a1, words x1.natAbs)] []) (by kernel_rfl) ?_
  replace hS := hS.drew
  refine any_take (v := .pointer (some ⟨g2, 0, none⟩)) hA 0 rfl rfl rfl rfl (by kernel_rfl) (by kernel_rfl) (by kernel_rfl) (fun c a w h => hP c a _ _ w h) hS (fun w1 hS => does_field ExQ_fld_48_0 rfl rfl) ?_
  intro a hA
  refine any_take (v := .agg #[.bool ((rb x1)), .slice a1 ((words x1.natAbs).length) ac1]) hA 1 rfl rfl rfl rfl (by kernel_rfl) (by kernel_rfl) (by kernel_rfl) (fun c a w h => hP c a _ _ w h) hS (fun w1 hS => does_loadS hS ExQ_isS_46 rfl 3 rfl (cs := [.bool ((rb x1)), .slice a1 ((words x1.natAbs).length) ac1]) rfl rfl) ?_
  intro a hA
  refine any_take (v := .pointer (some ⟨g4, 4, none⟩)) hA 2 rfl rfl rfl rfl (by kernel_rfl) (by kernel_rfl) (by kernel_rfl) (fun c a w h => hP c a _ _ w h) hS (fun w1 hS => does_field ExQ_fld_48_2 rfl rfl) ?_
  intro a hA
  refine any_take hA 3 rfl rfl rfl rfl (by kernel_rfl) (by kernel_rfl) (by kernel_rfl) (fun c a w h => hP c a _ _ w h) hS (fun w1 hS => does_load1 hS ExQ_is1_22 rfl 2 rfl rfl) ?_
  intro a hA
  refine any_take (v := .pointer (some ⟨g4, 0, none⟩)) hA 5 rfl rfl rfl rfl (by kernel_rfl) (by kernel_rfl) (by kernel_rfl) (fun c a w h => hP c a _ _ w h) hS (fun w1 hS => does_field ExQ_fld_48_0 rfl rfl) ?_
  intro a hA
  refine any_take (v := .pointer (some ⟨g4, 1, none⟩)) hA 6 rfl rfl rfl rfl (by kernel_rfl) (by kernel_rfl) (by kernel_rfl) (fun c a w h => hP c a _ _ w h) hS (fun w1 hS => does_field ExQ_fld_46_1 rfl rfl) ?_
  intro a hA
  refine any_take hA 7 rfl rfl rfl rfl (by kernel_rfl) (by kernel_rfl) (by kernel_rfl) (fun c a w h => hP c a _ _ w h) hS (fun w1 hS => does_load1 hS ExQ_is1_22 rfl 2 rfl rfl) ?_
  intro a hA
  refine any_take (v := .pointer (some ⟨g2, 4, none⟩)) hA 8 rfl rfl rfl rfl (by kernel_rfl) (by kernel_rfl) (by kernel_rfl) (fun c a w h => hP c a _ _ w h) hS (fun w1 hS => does_field ExQ_fld_48_2 rfl rfl) ?_
  intro a hA
  refine any_take hA 9 rfl rfl rfl rfl (by kernel_rfl) (by kernel_rfl) (by kernel_rfl) (fun c a w h => hP c a _ _ w h) hS (fun w1 hS => does_load1 hS ExQ_is1_22 rfl 3 rfl rfl) ?_
  intro a hA
  refine any_many (rs := [4, 15]) (by kernel_rfl) (by simp) ⟨?_, ?_, trivial⟩
  · refine op_call hA 4 rfl rfl rfl rfl (enters_func  rfl rfl (fun w => by kernel_rfl)) (zscaled_any ⟨(hS.rd 5 rfl), ha1.nil, ha1.cap⟩ ⟨(hS.rd 0 rfl), hu3.nil, hu3.cap⟩ (by omega) (by omega)) ?_
    rintro _ w108 ⟨zo104, zc105, rfl, hs106, hb107⟩
    replace hS := hS.call hb107
    replace hS := hS.addR hs106.rd
    refine ⟨_, rfl, (hS.partD (.refl _) 1 rfl (.refl _)), ?_⟩
    intro a hA
    refine any_many (rs := [10, 15]) (by kernel_rfl) (by simp) ⟨?_, ?_, trivial⟩
    · refine op_call hA 10 rfl rfl rfl rfl (enters_func  rfl rfl (fun w => by kernel_rfl)) (product_any _ _ (hS.rd 3 rfl) (hS.rd 4 rfl) (by omega) (by omega)) ?_
      rintro _ w113 ⟨ro109, rc110, rfl, ho111, hb112⟩
      replace hS := hS.call hb112
      replace hS := hS.addR ho111.rd
      refine ⟨_, rfl, (hS.partD (.refl _) 2 rfl (.refl _)), ?_⟩
      intro a hA
      refine any_many (rs := [11, 15]) (by kernel_rfl) (by simp) ⟨?_, ?_, trivial⟩
      · refine op_call hA 11 rfl rfl rfl rfl (enters_func  rfl rfl (fun w => by kernel_rfl)) (zover_any ⟨(hS.rd 1 rfl), hs106.nil, hs106.cap⟩ ⟨(hS.rd 0 rfl), ho111.nocap, ho111.caps⟩ (by omega) (by omega) (Nat.mul_ne_zero (by omega) h1)) ?_
        rintro _ w121 ⟨zo114, zc115, uo116, uc117, rfl, hs118, ht119, hb120⟩
        replace hS := hS.call hb120
        replace hS := hS.addR hs118.rd
        replace hS := hS.addR ht119.rd
        refine ⟨_, rfl, (hS.partD (.refl _) 4 rfl (.refl _)), ?_⟩
        intro a hA
        refine any_take hA 12 rfl rfl rfl rfl (by kernel_rfl) (by kernel_rfl) (by kernel_rfl) (fun c a w h => hP c a _ _ w h) (hS.partD (.refl _) 4 rfl (.refl _)) (fun w1 hS => does_move rfl) ?_
        intro a hA
        refine any_take (v := .agg #[.bool ((rb (x1 * ((d2 : Nat) : Int) / ((x2.natAbs * d1 : Nat) : Int)))), .slice zo114 ((words (x1 * ((d2 : Nat) : Int) / ((x2.natAbs * d1 : Nat) : Int)).natAbs).length) zc115]) hA 13 rfl rfl rfl rfl (by kernel_rfl) (by kernel_rfl) (by kernel_rfl) (fun c a w h => hP c a _ _ w h) (hS.partD (.refl _) 4 rfl (.refl _)) (fun w1 hS => does_extract (vs := [.agg #[.bool ((rb (x1 * ((d2 : Nat) : Int) / ((x2.natAbs * d1 : Nat) : Int)))), .slice zo114 ((words (x1 * ((d2 : Nat) : Int) / ((x2.natAbs * d1 : Nat) : Int)).natAbs).length) zc115], .slice uo116 ((words (dmR x1 x2 d1 d2)).length) uc117]) rfl rfl) ?_
        intro a hA
        refine any_take (v := .slice uo116 ((words (dmR x1 x2 d1 d2)).length) uc117) hA 14 rfl rfl rfl rfl (by kernel_rfl) (by kernel_rfl) (by kernel_rfl) (fun c a w h => hP c a _ _ w h) (hS.partD (.refl _) 4 rfl (.refl _)) (fun w1 hS => does_extract (vs := [.agg #[.bool ((rb (x1 * ((d2 : Nat) : Int) / ((x2.natAbs * d1 : Nat) : Int)))), .slice zo114 ((words (x1 * ((d2 : Nat) : Int) / ((x2.natAbs * d1 : Nat) : Int)).natAbs).length) zc115], .slice uo116 ((words (dmR x1 x2 d1 d2)).length) uc117]) rfl rfl) ?_
        intro a hA
        refine any_one (by kernel_rfl) (op_new (vs := [.bool false, .slice none 0 0]) (t := 46) hA hS 15 rfl rfl rfl rfl (fun g => .pointer (some ⟨g, 0, none⟩)) (does_alloc (z := .agg #[.bool false, .slice none 0 0]) (by kernel_rfl) rfl) rfl ?_)
        intro g122 w123 hS
        refine ⟨(hS.partD (.cons _ (.cons_cons _ (.cons_cons _ (.cons_cons _ (.cons_cons _ .slnil))))) 4 rfl (.refl _)), ?_⟩
        intro a hA
        refine any_one (by kernel_rfl) (op_store (us := [.bool ((rb (x1 * ((d2 : Nat) : Int) / ((x2.natAbs * d1 : Nat) : Int)))), .slice zo114 ((words (x1 * ((d2 : Nat) : Int) / ((x2.natAbs * d1 : Nat) : Int)).natAbs).length) zc115]) hA hS 16 rfl rfl rfl (sets_store (cs := [.bool ((rb (x1 * ((d2 : Nat) : Int) / ((x2.natAbs * d1 : Nat) : Int)))), .slice zo114 ((words (x1 * ((d2 : Nat) : Int) / ((x2.natAbs * d1 : Nat) : Int)).natAbs).length) zc115]) rfl rfl rfl (by kernel_rfl) hS 0 rfl rfl rfl) 0 rfl rfl rfl rfl ?_)
        intro w124 hS
        refine ⟨(hS.partD (.cons _ (.cons_cons _ (.cons_cons _ (.cons_cons _ (.cons_cons _ .slnil))))) 4 rfl (.refl _)), ?_⟩
        refine any_take hA 17 rfl rfl rfl rfl (by kernel_rfl) (by kernel_rfl) (by kernel_rfl) (fun c a w h => hP c a _ _ w h) (hS.partD (.cons _ (.cons_cons _ (.cons_cons _ (.cons_cons _ (.cons_cons _ .slnil))))) 4 rfl (.refl _)) (fun w1 hS => does_assign rfl) ?_
        intro a hA
        refine any_end (by kernel_rfl) ?_
        refine hJ49 _ _ ⟨g122, uo116, uc117, zo114, zc115, zo104, zc105, ro109, rc110, hA.keep _ ⟨rfl, rfl, rfl, rfl, rfl, rfl, rfl, rfl, rfl, rfl, rfl, rfl, rfl, rfl, rfl, rfl, rfl, rfl, rfl, rfl, rfl, rfl, rfl, trivial⟩, ((hS.pickR [(uo116, words (dmR x1 x2 d1 d2)), (zo114, words (x1 * ((d2 : Nat) : Int) / ((x2.natAbs * d1 : Nat) : Int)).natAbs), (ro109, words (x2.natAbs * d1)), (zo104, words (x1 * ((d2 : Nat) : Int)).natAbs), (u3, words d2), (u2, words y2.natAbs), (u1, words x2.natAbs), (a3, words d1), (a2, words y1.natAbs), (a1, words x1.natAbs)] ⟨⟨0, rfl⟩, ⟨⟨1, rfl⟩, ⟨⟨2, rfl⟩, ⟨⟨3, rfl⟩, ⟨⟨4, rfl⟩, ⟨⟨5, rfl⟩, ⟨⟨6, rfl⟩, ⟨⟨7, rfl⟩, ⟨⟨8, rfl⟩, ⟨⟨9, rfl⟩, trivial⟩⟩⟩⟩⟩⟩⟩⟩⟩⟩).pickL [(g122, [.bool ((rb (x1 * ((d2 : Nat) : Int) / ((x2.natAbs * d1 : Nat) : Int)))), .slice zo114 ((words (x1 * ((d2 : Nat) : Int) / ((x2.natAbs * d1 : Nat) : Int)).natAbs).length) zc115]), (g8, [.bool false, .slice none 0 0, .bool false, .slice none 0 0, .slice none 0 0]), (g6, [.bool false, .slice none 0 0, .bool false, .slice none 0 0, .slice none 0 0]), (g4, [.bool ((rb x2)), .slice u1 ((words x2.natAbs).length) uc1, .bool ((rb y2)), .slice u2 ((words y2.natAbs).length) uc2, .slice u3 ((words d2).length) uc3]), (g2, [.bool ((rb x1)), .slice a1 ((words x1.natAbs).length) ac1, .bool ((rb y1)), .slice a2 ((words y1.natAbs).length) ac2, .slice a3 ((words d1).length) ac3])] [0, 1, 2, 3, 4] rfl (by decide)), ht119.nil, ht119.cap, hs118.nil, hs118.cap, ho111.nocap, ho111.caps, hs106.nil, hs106.cap⟩
      · refine op_new (vs := [.bool false, .slice none 0 0]) (t := 46) hA hS 15 rfl rfl rfl rfl (fun g => .pointer (some ⟨g, 0, none⟩)) (does_alloc (z := .agg #[.bool false, .slice none 0 0]) (by kernel_rfl) rfl) rfl ?_
        intro g125 w126 hS
        refine ⟨(hS.partD (.cons _ (.cons_cons _ (.cons_cons _ (.cons_cons _ (.cons_cons _ .slnil))))) 2 rfl (.refl _)), ?_⟩
        intro a hA
        refine any_one (by kernel_rfl) (op_call hA 11 rfl rfl rfl rfl (enters_func  rfl rfl (fun w => by kernel_rfl)) (zover_any ⟨(hS.rd 1 rfl), hs106.nil, hs106.cap⟩ ⟨(hS.rd 0 rfl), ho111.nocap, ho111.caps⟩ (by omega) (by omega) (Nat.mul_ne_zero (by omega) h1)) ?_)
        rintro _ w134 ⟨zo127, zc128, uo129, uc130, rfl, hs131, ht132, hb133⟩
        replace hS := hS.call hb133
        replace hS := hS.addR hs131.rd
        replace hS := hS.addR ht132.rd
        refine ⟨_, rfl, (hS.partD (.cons _ (.cons_cons _ (.cons_cons _ (.cons_cons _ (.cons_cons _ .slnil))))) 4 rfl (.refl _)), ?_⟩
        intro a hA
        refine any_take hA 12 rfl rfl rfl rfl (by kernel_rfl) (by kernel_rfl) (by kernel_rfl) (fun c a w h => hP c a _ _ w h) (hS.partD (.cons _ (.cons_cons _ (.cons_cons _ (.cons_cons _ (.cons_cons _ .slnil))))) 4 rfl (.refl _)) (fun w1 hS => does_move rfl) ?_
        intro a hA
        refine any_take (v := .agg #[.bool ((rb (x1 * ((d2 : Nat) : Int) / ((x2.natAbs * d1 : Nat) : Int)))), .slice zo127 ((words (x1 * ((d2 : Nat) : Int) / ((x2.natAbs * d1 : Nat) : Int)).natAbs).length) zc128]) hA 13 rfl rfl rfl rfl (by kernel_rfl) (by kernel_rfl) (by kernel_rfl) (fun c a w h => hP c a _ _ w h) (hS.partD (.cons _ (.cons_cons _ (.cons_cons _ (.cons_cons _ (.cons_cons _ .slnil))))) 4 rfl (.refl _)) (fun w1 hS => does_extract (vs := [.agg #[.bool ((rb (x1 * ((d2 : Nat) : Int) / ((x2.natAbs * d1 : Nat) : Int)))), .slice zo127 ((words (x1 * ((d2 : Nat) : Int) / ((x2.natAbs * d1 : Nat) : Int)).natAbs).length) zc128], .slice uo129 ((words (dmR x1 x2 d1 d2)).length) uc130]) rfl rfl) ?_
        intro a hA
        refine any_take (v := .slice uo129 ((words (dmR x1 x2 d1 d2)).length) uc130) hA 14 rfl rfl rfl rfl (by kernel_rfl) (by kernel_rfl) (by kernel_rfl) (fun c a w h => hP c a _ _ w h) (hS.partD (.cons _ (.cons_cons _ (.cons_cons _ (.cons_cons _ (.cons_cons _ .slnil))))) 4 rfl (.refl _)) (fun w1 hS => does_extract (vs := [.agg #[.bool ((rb (x1 * ((d2 : Nat) : Int) / ((x2.natAbs * d1 : Nat) : Int)))), .slice zo127 ((words (x1 * ((d2 : Nat) : Int) / ((x2.natAbs * d1 : Nat) : Int)).natAbs).length) zc128], .slice uo129 ((words (dmR x1 x2 d1 d2)).length) uc130]) rfl rfl) ?_
        intro a hA
        refine any_one (by kernel_rfl) (op_store (us := [.bool ((rb (x1 * ((d2 : Nat) : Int) / ((x2.natAbs * d1 : Nat) : Int)))), .slice zo127 ((words (x1 * ((d2 : Nat) : Int) / ((x2.natAbs * d1 : Nat) : Int)).natAbs).length) zc128]) hA hS 16 rfl rfl rfl (sets_store (cs := [.bool ((rb (x1 * ((d2 : Nat) : Int) / ((x2.natAbs * d1 : Nat) : Int)))), .slice zo127 ((words (x1 * ((d2 : Nat) : Int) / ((x2.natAbs * d1 : Nat) : Int)).natAbs).length) zc128]) rfl rfl rfl (by kernel_rfl) hS 0 rfl rfl rfl) 0 rfl rfl rfl rfl ?_)
        intro w135 hS
        refine ⟨(hS.partD (.cons _ (.cons_cons _ (.cons_cons _ (.cons_cons _ (.cons_cons _ .slnil))))) 4 rfl (.refl _)), ?_⟩
        refine any_take hA 17 rfl rfl rfl rfl (by kernel_rfl) (by kernel_rfl) (by kernel_rfl) (fun c a w h => hP c a _ _ w h) (hS.partD (.cons _ (.cons_cons _ (.cons_cons _ (.cons_cons _ (.cons_cons _ .slnil))))) 4 rfl (.refl _)) (fun w1 hS => does_assign rfl) ?_
        intro a hA
        refine any_end (by kernel_rfl) ?_
        refine hJ49 _ _ ⟨g125, uo129, uc130, zo127, zc128, zo104, zc105, ro109, rc110, hA.keep _ ⟨rfl, rfl, rfl, rfl, rfl, rfl, rfl, rfl, rfl, rfl, rfl, rfl, rfl, rfl, rfl, rfl, rfl, rfl, rfl, rfl, rfl, rfl, rfl, trivial⟩, ((hS.pickR [(uo129, words (dmR x1 x2 d1 d2)), (zo127, words (x1 * ((d2 : Nat) : Int) / ((x2.natAbs * d1 : Nat) : Int)).natAbs), (ro109, words (x2.natAbs * d1)), (zo104, words (x1 * ((d2 : Nat) : Int)).natAbs), (u3, words d2), (u2, words y2.natAbs), (u1, words x2.natAbs), (a3, words d1), (a2, words y1.natAbs), (a1, words x1.natAbs)] ⟨⟨0, rfl⟩, ⟨⟨1, rfl⟩, ⟨⟨2, rfl⟩, ⟨⟨3, rfl⟩, ⟨⟨4, rfl⟩, ⟨⟨5, rfl⟩, ⟨⟨6, rfl⟩, ⟨⟨7, rfl⟩, ⟨⟨8, rfl⟩, ⟨⟨9, rfl⟩, trivial⟩⟩⟩⟩⟩⟩⟩⟩⟩⟩).pickL [(g125, [.bool ((rb (x1 * ((d2 : Nat) : Int) / ((x2.natAbs * d1 : Nat) : Int)))), .slice zo127 ((words (x1 * ((d2 : Nat) : Int) / ((x2.natAbs * d1 : Nat) : Int)).natAbs).length) zc128]), (g8, [.bool false, .slice none 0 0, .bool false, .slice none 0 0, .slice none 0 0]), (g6, [.bool false, .slice none 0 0, .bool false, .slice none 0 0, .slice none 0 0]), (g4, [.bool ((rb x2)), .slice u1 ((words x2.natAbs).length) uc1, .bool ((rb y2)), .slice u2 ((words y2.natAbs).length) uc2, .slice u3 ((words d2).length) uc3]), (g2, [.bool ((rb x1)), .slice a1 ((words x1.natAbs).length) ac1, .bool ((rb y1)), .slice a2 ((words y1.natAbs).length) ac2, .slice a3 ((words d1).length) ac3])] [0, 1, 2, 3, 4] rfl (by decide)), ht132.nil, ht132.cap, hs131.nil, hs131.cap, ho111.nocap, ho111.caps, hs106.nil, hs106.cap⟩
    · refine op_new (vs := [.bool false, .slice none 0 0]) (t := 46) hA hS 15 rfl rfl rfl rfl (fun g => .pointer (some ⟨g, 0, none⟩)) (does_alloc (z := .agg #[.bool false, .slice none 0 0]) (by kernel_rfl) rfl) rfl ?_
      intro g136 w137 hS
      refine ⟨(hS.partD (.cons _ (.cons_cons _ (.cons_cons _ (.cons_cons _ (.cons_cons _ .slnil))))) 1 rfl (.refl _)), ?_⟩
      intro a hA
      refine any_one (by kernel_rfl) (op_call hA 10 rfl rfl rfl rfl (enters_func  rfl rfl (fun w => by kernel_rfl)) (product_any _ _ (hS.rd 3 rfl) (hS.rd 4 rfl) (by omega) (by omega)) ?_)
      rintro _ w142 ⟨ro138, rc139, rfl, ho140, hb141⟩
      replace hS := hS.call hb141
      replace hS := hS.addR ho140.rd
      refine ⟨_, rfl, (hS.partD (.cons _ (.cons_cons _ (.cons_cons _ (.cons_cons _ (.cons_cons _ .slnil))))) 2 rfl (.refl _)), ?_⟩
      intro a hA
      refine any_one (by kernel_rfl) (op_call hA 11 rfl rfl rfl rfl (enters_func  rfl rfl (fun w => by kernel_rfl)) (zover_any ⟨(hS.rd 1 rfl), hs106.nil, hs106.cap⟩ ⟨(hS.rd 0 rfl), ho140.nocap, ho140.caps⟩ (by omega) (by omega) (Nat.mul_ne_zero (by omega) h1)) ?_)
      rintro _ w150 ⟨zo143, zc144, uo145, uc146, rfl, hs147, ht148, hb149⟩
      replace hS := hS.call hb149
      replace hS := hS.addR hs147.rd
      replace hS := hS.addR ht148.rd
      refine ⟨_, rfl, (hS.partD (.cons _ (.cons_cons _ (.cons_cons _ (.cons_cons _ (.cons_cons _ .slnil))))) 4 rfl (.refl _)), ?_⟩
      intro a hA
      refine any_take hA 12 rfl rfl rfl rfl (by kernel_rfl) (by kernel_rfl) (by kernel_rfl) (fun c a w h => hP c a _ _ w h) (hS.partD (.cons _ (.cons_cons _ (.cons_cons _ (.cons_cons _ (.cons_cons _ .slnil))))) 4 rfl (.refl _)) (fun w1 hS => does_move rfl) ?_
      intro a hA
      refine any_take (v := .agg #[.bool ((rb (x1 * ((d2 : Nat) : Int) / ((x2.natAbs * d1 : Nat) : Int)))), .slice zo143 ((words (x1 * ((d2 : Nat) : Int) / ((x2.natAbs * d1 : Nat) : Int)).natAbs).length) zc144]) hA 13 rfl rfl rfl rfl (by kernel_rfl) (by kernel_rfl) (by kernel_rfl) (fun c a w h => hP c a _ _ w h) (hS.partD (.cons _ (.cons_cons _ (.cons_cons _ (.cons_cons _ (.cons_cons _ .slnil))))) 4 rfl (.refl _)) (fun w1 hS => does_extract (vs := [.agg #[.bool ((rb (x1 * ((d2 : Nat) : Int) / ((x2.natAbs * d1 : Nat) : Int)))), .slice zo143 ((words (x1 * ((d2 : Nat) : Int) / ((x2.natAbs * d1 : Nat) : Int)).natAbs).length) zc144], .slice uo145 ((words (dmR x1 x2 d1 d2)).length) uc146]) rfl rfl) ?_
      intro a hA
      refine any_take (v := .slice uo145 ((words (dmR x1 x2 d1 d2)).length) uc146) hA 14 rfl rfl rfl rfl (by kernel_rfl) (by kernel_rfl) (by kernel_rfl) (fun c a w h => hP c a _ _ w h) (hS.partD (.cons _ (.cons_cons _ (.cons_cons _ (.cons_cons _ (.cons_cons _ .slnil))))) 4 rfl (.refl _)) (fun w1 hS => does_extract (vs := [.agg #[.bool ((rb (x1 * ((d2 : Nat) : Int) / ((x2.natAbs * d1 : Nat) : Int)))), .slice zo143 ((words (x1 * ((d2 : Nat) : Int) / ((x2.natAbs * d1 : Nat) : Int)).natAbs).length) zc144], .slice uo145 ((words (dmR x1 x2 d1 d2)).length) uc146]) rfl rfl) ?_
      intro a hA
      refine any_one (by kernel_rfl) (op_store (us := [.bool ((rb (x1 * ((d2 : Nat) : Int) / ((x2.natAbs * d1 : Nat) : Int)))), .slice zo143 ((words (x1 * ((d2 : Nat) : Int) / ((x2.natAbs * d1 : Nat) : Int)).natAbs).length) zc144]) hA hS 16 rfl rfl rfl (sets_store (cs := [.bool ((rb (x1 * ((d2 : Nat) : Int) / ((x2.natAbs * d1 : Nat) : Int)))), .slice zo143 ((words (x1 * ((d2 : Nat) : Int) / ((x2.natAbs * d1 : Nat) : Int)).natAbs).length) zc144]) rfl rfl rfl (by kernel_rfl) hS 0 rfl rfl rfl) 0 rfl rfl rfl rfl ?_)
      intro w151 hS
      refine ⟨(hS.partD (.cons _ (.cons_cons _ (.cons_cons _ (.cons_cons _ (.cons_cons _ .slnil))))) 4 rfl (.refl _)), ?_⟩
      refine any_take hA 17 rfl rfl rfl rfl (by kernel_rfl) (by kernel_rfl) (by kernel_rfl) (fun c a w h => hP c a _ _ w h) (hS.partD (.cons _ (.cons_cons _ (.cons_cons _ (.cons_cons _ (.cons_cons _ .slnil))))) 4 rfl (.refl _)) (fun w1 hS => does_assign rfl) ?_
      intro a hA
      refine any_end (by kernel_rfl) ?_
      refine hJ49 _ _ ⟨g136, uo145, uc146, zo143, zc144, zo104, zc105, ro138, rc139, hA.keep _ ⟨rfl, rfl, rfl, rfl, rfl, rfl, rfl, rfl, rfl, rfl, rfl, rfl, rfl, rfl, rfl, rfl, rfl, rfl, rfl, rfl, rfl, rfl, rfl, trivial⟩, ((hS.pickR [(uo145, words (dmR x1 x2 d1 d2)), (zo143, words (x1 * ((d2 : Nat) : Int) / ((x2.natAbs * d1 : Nat) : Int)).natAbs), (ro138, words (x2.natAbs * d1)), (zo104, words (x1 * ((d2 : Nat) : Int)).natAbs), (u3, words d2), (u2, words y2.natAbs), (u1, words x2.natAbs), (a3, words d1), (a2, words y1.natAbs), (a1, words x1.natAbs)] ⟨⟨0, rfl⟩, ⟨⟨1, rfl⟩, ⟨⟨2, rfl⟩, ⟨⟨3, rfl⟩, ⟨⟨4, rfl⟩, ⟨⟨5, rfl⟩, ⟨⟨6, rfl⟩, ⟨⟨7, rfl⟩, ⟨⟨8, rfl⟩, ⟨⟨9, rfl⟩, trivial⟩⟩⟩⟩⟩⟩⟩⟩⟩⟩).pickL [(g136, [.bool ((rb (x1 * ((d2 : Nat) : Int) / ((x2.natAbs * d1 : Nat) : Int)))), .slice zo143 ((words (x1 * ((d2 : Nat) : Int) / ((x2.natAbs * d1 : Nat) : Int)).natAbs).length) zc144]), (g8, [.bool false, .slice none 0 0, .bool false, .slice none 0 0, .slice none 0 0]), (g6, [.bool false, .slice none 0 0, .bool false, .slice none 0 0, .slice none 0 0]), (g4, [.bool ((rb x2)), .slice u1 ((words x2.natAbs).length) uc1, .bool ((rb y2)), .slice u2 ((words y2.natAbs).length) uc2, .slice u3 ((words d2).length) uc3]), (g2, [.bool ((rb x1)), .slice a1 ((words x1.natAbs).length) ac1, .bool ((rb y1)), .slice a2 ((words y1.natAbs).length) ac2, .slice a3 ((words d1).length) ac3])] [0, 1, 2, 3, 4] rfl (by decide)), ht148.nil, ht148.cap, hs147.nil, hs147.cap, ho140.nocap, ho140.caps, hs106.nil, hs106.cap⟩
  · refine op_new (vs := [.bool false, .slice none 0 0]) (t := 46) hA hS 15 rfl rfl rfl rfl (fun g => .pointer (some ⟨g, 0, none⟩)) (does_alloc (z := .agg #[.bool false, .slice none 0 0]) (by kernel_rfl) rfl) rfl ?_
    intro g152 w153 hS
    refine ⟨(hS.partD (.cons _ (.cons_cons _ (.cons_cons _ (.cons_cons _ (.cons_cons _ .slnil))))) 0 rfl (.refl _)), ?_⟩
    intro a hA
    refine any_one (by kernel_rfl) (op_call hA 4 rfl rfl rfl rfl (enters_func  rfl rfl (fun w => by kernel_rfl)) (zscaled_any ⟨(hS.rd 5 rfl), ha1.nil, ha1.cap⟩ ⟨(hS.rd 0 rfl), hu3.nil, hu3.cap⟩ (by omega) (by omega)) ?_)
    rintro _ w158 ⟨zo154, zc155, rfl, hs156, hb157⟩
    replace hS := hS.call hb157
    replace hS := hS.addR hs156.rd
    refine ⟨_, rfl, (hS.partD (.cons _ (.cons_cons _ (.cons_cons _ (.cons_cons _ (.cons_cons _ .slnil))))) 1 rfl (.refl _)), ?_⟩
    intro a hA
    refine any_one (by kernel_rfl) (op_call hA 10 rfl rfl rfl rfl (enters_func  rfl rfl (fun w => by kernel_rfl)) (product_any _ _ (hS.rd 3 rfl) (hS.rd 4 rfl) (by omega) (by omega)) ?_)
    rintro _ w163 ⟨ro159, rc160, rfl, ho161, hb162⟩
    replace hS := hS.call hb162
    replace hS := hS.addR ho161.rd
    refine ⟨_, rfl, (hS.partD (.cons _ (.cons_cons _ (.cons_cons _ (.cons_cons _ (.cons_cons _ .slnil))))) 2 rfl (.refl _)), ?_⟩
    intro a hA
    refine any_one (by kernel_rfl) (op_call hA 11 rfl rfl rfl rfl (enters_func  rfl rfl (fun w => by kernel_rfl)) (zover_any ⟨(hS.rd 1 rfl), hs156.nil, hs156.cap⟩ ⟨(hS.rd 0 rfl), ho161.nocap, ho161.caps⟩ (by omega) (by omega) (Nat.mul_ne_zero (by omega) h1)) ?_)
    rintro _ w171 ⟨zo164, zc165, uo166, uc167, rfl, hs168, ht169, hb170⟩
    replace hS := hS.call hb170
    replace hS := hS.addR hs168.rd
    replace hS := hS.addR ht169.rd
    refine ⟨_, rfl, (hS.partD (.cons _ (.cons_cons _ (.cons_cons _ (.cons_cons _ (.cons_cons _ .slnil))))) 4 rfl (.refl _)), ?_⟩
    intro a hA
    refine any_take hA 12 rfl rfl rfl rfl (by kernel_rfl) (by kernel_rfl) (by kernel_rfl) (fun c a w h => hP c a _ _ w h) (hS.partD (.cons _ (.cons_cons _ (.cons_cons _ (.cons_cons _ (.cons_cons _ .slnil))))) 4 rfl (.refl _)) (fun w1 hS => does_move rfl) ?_
    intro a hA
    refine any_take (v := .agg #[.bool ((rb (x1 * ((d2 : Nat) : Int) / ((x2.natAbs * d1 : Nat) : Int)))), .slice zo164 ((words (x1 * ((d2 : Nat) : Int) / ((x2.natAbs * d1 : Nat) : Int)).natAbs).length) zc165]) hA 13 rfl rfl rfl rfl (by kernel_rfl) (by kernel_rfl) (by kernel_rfl) (fun c a w h => hP c a _ _ w h) (hS.partD (.cons _ (.cons_cons _ (.cons_cons _ (.cons_cons _ (.cons_cons _ .slnil))))) 4 rfl (.refl _)) (fun w1 hS => does_extract (vs := [.agg #[.bool ((rb (x1 * ((d2 : Nat) : Int) / ((x2.natAbs * d1 : Nat) : Int)))), .slice zo164 ((words (x1 * ((d2 : Nat) : Int) / ((x2.natAbs * d1 : Nat) : Int)).natAbs).length) zc165], .slice uo166 ((words (dmR x1 x2 d1 d2)).length) uc167]) rfl rfl) ?_
    intro a hA
    refine any_take (v := .slice uo166 ((words (dmR x1 x2 d1 d2)).length) uc167) hA 14 rfl rfl rfl rfl (by kernel_rfl) (by kernel_rfl) (by kernel_rfl) (fun c a w h => hP c a _ _ w h) (hS.partD (.cons _ (.cons_cons _ (.cons_cons _ (.cons_cons _ (.cons_cons _ .slnil))))) 4 rfl (.refl _)) (fun w1 hS => does_extract (vs := [.agg #[.bool ((rb (x1 * ((d2 : Nat) : Int) / ((x2.natAbs * d1 : Nat) : Int)))), .slice zo164 ((words (x1 * ((d2 : Nat) : Int) / ((x2.natAbs * d1 : Nat) : Int)).natAbs).length) zc165], .slice uo166 ((words (dmR x1 x2 d1 d2)).length) uc167]) rfl rfl) ?_
    intro a hA
    refine any_one (by kernel_rfl) (op_store (us := [.bool ((rb (x1 * ((d2 : Nat) : Int) / ((x2.natAbs * d1 : Nat) : Int)))), .slice zo164 ((words (x1 * ((d2 : Nat) : Int) / ((x2.natAbs * d1 : Nat) : Int)).natAbs).length) zc165]) hA hS 16 rfl rfl rfl (sets_store (cs := [.bool ((rb (x1 * ((d2 : Nat) : Int) / ((x2.natAbs * d1 : Nat) : Int)))), .slice zo164 ((words (x1 * ((d2 : Nat) : Int) / ((x2.natAbs * d1 : Nat) : Int)).natAbs).length) zc165]) rfl rfl rfl (by kernel_rfl) hS 0 rfl rfl rfl) 0 rfl rfl rfl rfl ?_)
    intro w172 hS
    refine ⟨(hS.partD (.cons _ (.cons_cons _ (.cons_cons _ (.cons_cons _ (.cons_cons _ .slnil))))) 4 rfl (.refl _)), ?_⟩
    refine any_take hA 17 rfl rfl rfl rfl (by kernel_rfl) (by kernel_rfl) (by kernel_rfl) (fun c a w h => hP c a _ _ w h) (hS.partD (.cons _ (.cons_cons _ (.cons_cons _ (.cons_cons _ (.cons_cons _ .slnil))))) 4 rfl (.refl _)) (fun w1 hS => does_assign rfl) ?_
    intro a hA
    refine any_end (by kernel_rfl) ?_
    refine hJ49 _ _ ⟨g152, uo166, uc167, zo164, zc165, zo154, zc155, ro159, rc160, hA.keep _ ⟨rfl, rfl, rfl, rfl, rfl, rfl, rfl, rfl, rfl, rfl, rfl, rfl, rfl, rfl, rfl, rfl, rfl, rfl, rfl, rfl, rfl, rfl, rfl, trivial⟩, ((hS.pickR [(uo166, words (dmR x1 x2 d1 d2)), (zo164, words (x1 * ((d2 : Nat) : Int) / ((x2.natAbs * d1 : Nat) : Int)).natAbs), (ro159, words (x2.natAbs * d1)), (zo154, words (x1 * ((d2 : Nat) : Int)).natAbs), (u3, words d2), (u2, words y2.natAbs), (u1, words x2.natAbs), (a3, words d1), (a2, words y1.natAbs), (a1, words x1.natAbs)] ⟨⟨0, rfl⟩, ⟨⟨1, rfl⟩, ⟨⟨2, rfl⟩, ⟨⟨3, rfl⟩, ⟨⟨4, rfl⟩, ⟨⟨5, rfl⟩, ⟨⟨6, rfl⟩, ⟨⟨7, rfl⟩, ⟨⟨8, rfl⟩, ⟨⟨9, rfl⟩, trivial⟩⟩⟩⟩⟩⟩⟩⟩⟩⟩).pickL [(g152, [.bool ((rb (x1 * ((d2 : Nat) : Int) / ((x2.natAbs * d1 : Nat) : Int)))), .slice zo164 ((words (x1 * ((d2 : Nat) : Int) / ((x2.natAbs * d1 : Nat) : Int)).natAbs).length) zc165]), (g8, [.bool false, .slice none 0 0, .bool false, .slice none 0 0, .slice none 0 0]), (g6, [.bool false, .slice none 0 0, .bool false, .slice none 0 0, .slice none 0 0]), (g4, [.bool ((rb x2)), .slice u1 ((words x2.natAbs).length) uc1, .bool ((rb y2)), .slice u2 ((words y2.natAbs).length) uc2, .slice u3 ((words d2).length) uc3]), (g2, [.bool ((rb x1)), .slice a1 ((words x1.natAbs).length) ac1, .bool ((rb y1)), .slice a2 ((words y1.natAbs).length) ac2, .slice a3 ((words d1).length) ac3])] [0, 1, 2, 3, 4] rfl (by decide)), ht169.nil, ht169.cap, hs168.nil, hs168.cap, ho161.nocap, ho161.caps, hs156.nil, hs156.cap⟩
theorem zsettle0_as {w : World} {x : Int} {d : Nat} {a1 a3 : Option Addr} {ac1 ac3 : Nat} (ha1 : Sc w a1 ac1 (words x.natAbs)) (ha3 : Sc w a3 ac3 (words d)) {r : Q6 × Int} (h : setQ x 0 d = r) (l1 : (words x.natAbs).length ≤ 50000) (l3 : (words d).length ≤ 50000) (hd : d ≠ 0) : Calls Try.prog 34 #[.agg #[.bool (rb x), .slice a1 (words x.natAbs).length ac1, .bool false, .slice none 0 0, .slice a3 (words d).length ac3]] w (AnsN w r) := by
  have e : words (Int.natAbs 0) = [] := words_zero
  have k := zsettle_as (w := w) (x := x) (y := 0) (d := d) (a2 := none) (ac2 := 0) ha1 (by rw [e]; exact Sc.none _) ha3 h l1 (by rw [e]; decide) l3 hd
  rw [e] at k
  exact k
end Go.Proofs.Ytmibkfihcihphaa
