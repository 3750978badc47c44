/- TrB TrC JcF Lj JcM TrU Tu -/
import Derived.Test.YtoopkbedjbnhhaaGreatDoorPimport15f
import Derived.Test.YtoopkbedjbnhhaaGreatDoorPimport15c
import Derived.Test.YtoopkbedjbnhhaaGreatDoorPimport15d
import Derived.Test.YtoopkbedjbnhhaaGreatDoorProg
import Derived.Lib.ConvBytes
set_option linter.unusedVariables false
set_option linter.unusedSimpArgs false
set_option maxHeartbeats 1000000
namespace Go.Proofs.YtoopkbedjbnhhaaGreatDoor.G
open Go.RowKit
set_option maxRecDepth 100000
theorem TrB_is1_22 : Is1 Tryz.prog 22 := ⟨⟨_, Tryz.underlying22, rfl⟩, by kernel_rfl⟩
theorem TrB_is1_27 : Is1 Tryz.prog 27 := ⟨⟨_, Tryz.underlying27, rfl⟩, by kernel_rfl⟩
theorem TrB_is1_28 : Is1 Tryz.prog 28 := ⟨⟨_, Tryz.underlying28, rfl⟩, by kernel_rfl⟩
theorem TrB_is1_3 : Is1 Tryz.prog 3 := ⟨⟨_, Tryz.underlying3, rfl⟩, by kernel_rfl⟩
theorem TrB_is1_4 : Is1 Tryz.prog 4 := ⟨⟨_, Tryz.underlying4, rfl⟩, by kernel_rfl⟩
theorem TrB_is1_9 : Is1 Tryz.prog 9 := ⟨⟨_, Tryz.underlying9, rfl⟩, by kernel_rfl⟩
theorem TrB_fld_24_0 : FieldAt Tryz.prog 24 0 0 := ⟨_, _, Tryz.underlying24, rfl, rfl, by kernel_rfl⟩
theorem TrB_fld_24_1 : FieldAt Tryz.prog 24 1 1 := ⟨_, _, Tryz.underlying24, rfl, rfl, by kernel_rfl⟩
theorem TrB_fld_24_2 : FieldAt Tryz.prog 24 2 2 := ⟨_, _, Tryz.underlying24, rfl, rfl, by kernel_rfl⟩
theorem TrB_fld_26_0 : FieldAt Tryz.prog 26 0 0 := ⟨_, _, Tryz.underlying26, rfl, rfl, by kernel_rfl⟩
theorem TrB_fld_26_1 : FieldAt Tryz.prog 26 1 3 := ⟨_, _, Tryz.underlying26, rfl, rfl, by kernel_rfl⟩
theorem TrB_fld_30_0 : FieldAt Tryz.prog 30 0 0 := ⟨_, _, Tryz.underlying30, rfl, rfl, by kernel_rfl⟩
theorem TrB_fld_30_1 : FieldAt Tryz.prog 30 1 1 := ⟨_, _, Tryz.underlying30, rfl, rfl, by kernel_rfl⟩
theorem TrB_fld_30_2 : FieldAt Tryz.prog 30 2 2 := ⟨_, _, Tryz.underlying30, rfl, rfl, by kernel_rfl⟩
theorem TrB_fld_30_3 : FieldAt Tryz.prog 30 3 8 := ⟨_, _, Tryz.underlying30, rfl, rfl, by kernel_rfl⟩
theorem TrB_fld_30_4 : FieldAt Tryz.prog 30 4 9 := ⟨_, _, Tryz.underlying30, rfl, rfl, by kernel_rfl⟩
theorem TrB_fld_30_5 : FieldAt Tryz.prog 30 5 10 := ⟨_, _, Tryz.underlying30, rfl, rfl, by kernel_rfl⟩
theorem TrB_isS_24 : IsS Tryz.prog 24 3 := ⟨⟨_, Tryz.underlying24⟩, by kernel_rfl⟩
theorem TrB_isS_26 : IsS Tryz.prog 26 6 := ⟨⟨_, Tryz.underlying26⟩, by kernel_rfl⟩
theorem TrB_isS_30 : IsS Tryz.prog 30 11 := ⟨⟨_, Tryz.underlying30⟩, by kernel_rfl⟩
def Tabs8 (w : World) : Prop := Lib.Utf8Tabs (Tryz.laysValid_ren.g 3) (Tryz.laysValid_ren.g 4) w
theorem Tabs8.below {w w' : World} (h : Tabs8 w) (hb : Below w.heap.size w w') : Tabs8 w' := Utf8Tabs_below h hb
theorem yq {w : World} {s : ByteArray} (hs : s.size ≤ 9223372036854775807) (hT : Tabs8 w) {b : Bool} (h : okS s = b) : Calls Tryz.prog 130 #[.string s] w fun e w' => e = .returned (.bool b) ∧ Below w.heap.size w w' := h ▸ Any.utf8_ValidString Tryz.laysValid s w hs hT
theorem vrune_any {w : World} {r : Int} : Calls Tryz.prog 167 #[.int .i32 r] w fun e w' => e = .returned (.bool (Lib.validRune r)) ∧ Below w.heap.size w w' := (Tryz.utf8_ValidRune r w).mono fun e w' ⟨h, e2⟩ => ⟨h, e2 ▸ Below.refl _ _⟩
theorem convert_rune {P : Program} {s d : TypeId} (hs : P.underlying s = some (.int .i64)) (hd : P.underlying d = some (.int .i32)) {n : Int} (h0 : 0 ≤ n) (h1 : n ≤ 1114111) : ∀ w, (convert s d (.int .i64 n)).run P w = .ok (.int .i32 n) w := fun w => by
  simp [go_sem, run_underlying hs, run_underlying hd, convert]
  exact in_i32 (by omega) (by omega)
theorem isCh_any {w : World} {n : Int} : Calls Tryz.prog 129 #[.int .i64 n] w fun e w' => e = .returned (.bool (yg n)) ∧ Below w.heap.size w w' := by
 have hM : Mg w w ([]) := Mg.start w
 refine qz (l := [(0, .int .i64 n)]) Tryz.func129 rfl Tryz.ntmps129 rfl rfl ?_
 intro Q hret hnorm hP a hA
 refine wp_seq_k (fun K1 hK1 => ?_)
 refine wp_region_lit ?_
 refine qa hA rfl rfl rfl (qb rfl) ?_
 intro a hA
 refine qf ?_
 refine hK1 _ _ ?_
 refine wp_seq_k (fun K2 hK2 => ?_)
 refine wp_region_lit ?_
 refine qa hA rfl rfl rfl (qe rfl) ?_
 intro a hA
 rcases Bool.eq_false_or_eq_true (decide (0 ≤ n)) with hb3 | hb3
 · have hb3' := of_decide_eq_true hb3
   refine qa (v := .bool true) hA rfl rfl rfl (qg rfl rfl (fun w => (ju w).trans (by rw [hb3]))) ?_
   intro a hA
   refine qa hA rfl rfl rfl (qe rfl) ?_
   intro a hA
   refine qa hA rfl rfl rfl (qe rfl) ?_
   intro a hA
   rcases Bool.eq_false_or_eq_true (decide (n ≤ 1114111)) with hb4 | hb4
   · have hb4' := of_decide_eq_true hb4
     refine qa (v := .bool true) hA rfl rfl rfl (qg rfl rfl (fun w => (vp w).trans (by rw [hb4]))) ?_
     intro a hA
     refine qa (v := .bool true) hA rfl rfl rfl (ql rfl rfl rfl rfl) ?_
     intro a hA
     refine qa hA rfl rfl rfl (qe rfl) ?_
     intro a hA
     refine qa hA rfl rfl rfl (qe rfl) ?_
     intro a hA
     refine qa (v := .int .i32 n) hA rfl rfl rfl (zn rfl (convert_rune Tryz.underlying3 Tryz.underlying21 (by omega) (by omega))) ?_
     intro a hA
     refine qm hA rfl rfl rfl (qh rfl rfl (fun w => by kernel_rfl)) (vrune_any) ?_
     rintro _ w5 ⟨rfl, hbv⟩
     replace hM := hM.call hbv
     refine ⟨_, rfl, ?_⟩
     intro a hA
     refine qa (v := .bool (Lib.validRune n)) hA rfl rfl rfl (ql rfl rfl rfl rfl) ?_
     intro a hA
     refine qa hA rfl rfl rfl (qb rfl) ?_
     intro a hA
     refine qf ?_
     refine hK2 _ _ ?_
     refine wp_ret ?_
     refine hret _ _ ?_
     refine za (v := .bool (Lib.validRune n)) hA rfl (.cons (qk rfl) .nil) rfl ?_
     exact ⟨by rw [show yg n = Lib.validRune n from by unfold yg; unfold Lib.validRune; exact decide_eq_decide.2 (by omega)], hM.bel⟩
   · have hb4' := of_decide_eq_false hb4
     refine qa (v := .bool false) hA rfl rfl rfl (qg rfl rfl (fun w => (vp w).trans (by rw [hb4]))) ?_
     intro a hA
     refine qa (v := .bool false) hA rfl rfl rfl (ql rfl rfl rfl rfl) ?_
     intro a hA
     refine qa hA rfl rfl rfl (qe rfl) ?_
     intro a hA
     refine qj hA rfl rfl rfl ?_
     intro a hA
     refine qj hA rfl rfl rfl ?_
     intro a hA
     refine qj hA rfl rfl rfl ?_
     intro a hA
     refine qa (v := .bool false) hA rfl rfl rfl (ql rfl rfl rfl rfl) ?_
     intro a hA
     refine qa hA rfl rfl rfl (qb rfl) ?_
     intro a hA
     refine qf ?_
     refine hK2 _ _ ?_
     refine wp_ret ?_
     refine hret _ _ ?_
     refine za (v := .bool false) hA rfl (.cons (qk rfl) .nil) rfl ?_
     exact ⟨by rw [show yg n = false from by unfold yg; apply decide_eq_false; omega], hM.bel⟩
 · have hb3' := of_decide_eq_false hb3
   refine qa (v := .bool false) hA rfl rfl rfl (qg rfl rfl (fun w => (ju w).trans (by rw [hb3]))) ?_
   intro a hA
   refine qa hA rfl rfl rfl (qe rfl) ?_
   intro a hA
   refine qj hA rfl rfl rfl ?_
   intro a hA
   refine qj hA rfl rfl rfl ?_
   intro a hA
   refine qa (v := .bool false) hA rfl rfl rfl (ql rfl rfl rfl rfl) ?_
   intro a hA
   refine qa hA rfl rfl rfl (qe rfl) ?_
   intro a hA
   refine qj hA rfl rfl rfl ?_
   intro a hA
   refine qj hA rfl rfl rfl ?_
   intro a hA
   refine qj hA rfl rfl rfl ?_
   intro a hA
   refine qa (v := .bool false) hA rfl rfl rfl (ql rfl rfl rfl rfl) ?_
   intro a hA
   refine qa hA rfl rfl rfl (qb rfl) ?_
   intro a hA
   refine qf ?_
   refine hK2 _ _ ?_
   refine wp_ret ?_
   refine hret _ _ ?_
   refine za (v := .bool false) hA rfl (.cons (qk rfl) .nil) rfl ?_
   exact ⟨by rw [show yg n = false from by unfold yg; apply decide_eq_false; omega], hM.bel⟩
theorem qkf {m1 m2 : Nat} (h1 : m1 ≤ 9223372036854775807) (h2 : m2 ≤ 9223372036854775807) : (IntKind.i64.wrap (((m1 : Nat) : Int) + ((m2 : Nat) : Int)) == 0) = (decide (m1 = 0) && decide (m2 = 0)) := by
  rw [IntKind.wrap_i64]
  by_cases a1 : m1 = 0
  · subst a1
    by_cases a2 : m2 = 0
    · subst a2; rfl
    · simp [a2]; omega
  · simp [a1]; omega
theorem yn {w : World} {b : Bool} {o1 o2 : Option Addr} {m1 m2 c1 c2 : Nat} (h1 : m1 ≤ 9223372036854775807) (h2 : m2 ≤ 9223372036854775807) {r : Bool} (hr : kp b m1 m2 = r) : Calls Tryz.prog 169 #[.agg #[.bool b, .slice o1 m1 c1, .slice o2 m2 c2]] w fun e w' => e = .returned (.bool r) ∧ Below w.heap.size w w' := by
 have hM : Mg w w ([]) := Mg.start w
 refine qz (l := [(0, .agg #[.bool b, .slice o1 m1 c1, .slice o2 m2 c2])]) Tryz.func169 rfl Tryz.ntmps169 rfl rfl ?_
 intro Q hret hnorm hP a hA
 refine wp_seq_k (fun K1 hK1 => ?_)
 refine wp_region_lit ?_
 refine jk (vs := [.bool b, .slice o1 m1 c1, .slice o2 m2 c2]) (t := 24) hA hM rfl rfl rfl (fun g => .pointer (some ⟨g, 0, none⟩)) (zg rfl rfl) (by decide) ?_
 intro g2 w3 hM a hA
 refine qa hA rfl rfl rfl (qb rfl) ?_
 intro a hA
 refine qf ?_
 refine hK1 _ _ ?_
 refine wp_seq_k (fun K4 hK4 => ?_)
 refine wp_region_lit ?_
 refine qa (v := .pointer (some ⟨g2, 0, none⟩)) hA rfl rfl rfl (qi TrB_fld_24_0 rfl rfl) ?_
 intro a hA
 refine qa hA rfl rfl rfl (zl hM TrB_is1_4 rfl 0 rfl rfl) ?_
 intro a hA
 rcases b with _ | _
 · refine qa (v := .bool true) hA rfl rfl rfl (qp rfl qt) ?_
   intro a hA
   refine qa hA rfl rfl rfl (qe rfl) ?_
   intro a hA
   refine qa (v := .pointer (some ⟨g2, 1, none⟩)) hA rfl rfl rfl (qi TrB_fld_24_1 rfl rfl) ?_
   intro a hA
   refine qa hA rfl rfl rfl (zl hM TrB_is1_22 rfl 0 rfl rfl) ?_
   intro a hA
   refine qa (v := .int .i64 (((m1 : Nat) : Int))) hA rfl rfl rfl (zb Tryz.underlying22 rfl) ?_
   intro a hA
   rcases Bool.eq_false_or_eq_true ((((m1 : Nat) : Int) == 0)) with hb5 | hb5
   · have hb5' := eq_of_beq hb5
     refine qa (v := .bool true) hA rfl rfl rfl (qg rfl rfl (fun w => (qx w).trans (by rw [hb5]))) ?_
     intro a hA
     refine qa (v := .bool true) hA rfl rfl rfl (ql rfl rfl rfl rfl) ?_
     intro a hA
     refine qa hA rfl rfl rfl (qe rfl) ?_
     intro a hA
     refine qa (v := .pointer (some ⟨g2, 2, none⟩)) hA rfl rfl rfl (qi TrB_fld_24_2 rfl rfl) ?_
     intro a hA
     refine qa hA rfl rfl rfl (zl hM TrB_is1_22 rfl 0 rfl rfl) ?_
     intro a hA
     refine qa (v := .int .i64 (((m2 : Nat) : Int))) hA rfl rfl rfl (zb Tryz.underlying22 rfl) ?_
     intro a hA
     rcases Bool.eq_false_or_eq_true ((((m2 : Nat) : Int) == 0)) with hb6 | hb6
     · have hb6' := eq_of_beq hb6
       refine qa (v := .bool true) hA rfl rfl rfl (qg rfl rfl (fun w => (qx w).trans (by rw [hb6]))) ?_
       intro a hA
       refine qa (v := .bool true) hA rfl rfl rfl (ql rfl rfl rfl rfl) ?_
       intro a hA
       refine qa hA rfl rfl rfl (qb rfl) ?_
       intro a hA
       refine qf ?_
       refine hK4 _ _ ?_
       refine wp_ret ?_
       refine hret _ _ ?_
       refine za (v := .bool true) hA rfl (.cons (qk rfl) .nil) rfl ?_
       subst hr
       exact ⟨by unfold kp; simp_all; try omega, hM.bel⟩
     · have hb6' := ne_of_beq_false hb6
       refine qa (v := .bool false) hA rfl rfl rfl (qg rfl rfl (fun w => (qx w).trans (by rw [hb6]))) ?_
       intro a hA
       refine qa (v := .bool false) hA rfl rfl rfl (ql rfl rfl rfl rfl) ?_
       intro a hA
       refine qa hA rfl rfl rfl (qb rfl) ?_
       intro a hA
       refine qf ?_
       refine hK4 _ _ ?_
       refine wp_ret ?_
       refine hret _ _ ?_
       refine za (v := .bool false) hA rfl (.cons (qk rfl) .nil) rfl ?_
       subst hr
       exact ⟨by unfold kp; simp_all; try omega, hM.bel⟩
   · have hb5' := ne_of_beq_false hb5
     refine qa (v := .bool false) hA rfl rfl rfl (qg rfl rfl (fun w => (qx w).trans (by rw [hb5]))) ?_
     intro a hA
     refine qa (v := .bool false) hA rfl rfl rfl (ql rfl rfl rfl rfl) ?_
     intro a hA
     refine qa hA rfl rfl rfl (qe rfl) ?_
     intro a hA
     refine qj hA rfl rfl rfl ?_
     intro a hA
     refine qj hA rfl rfl rfl ?_
     intro a hA
     refine qj hA rfl rfl rfl ?_
     intro a hA
     refine qj hA rfl rfl rfl ?_
     intro a hA
     refine qa (v := .bool false) hA rfl rfl rfl (ql rfl rfl rfl rfl) ?_
     intro a hA
     refine qa hA rfl rfl rfl (qb rfl) ?_
     intro a hA
     refine qf ?_
     refine hK4 _ _ ?_
     refine wp_ret ?_
     refine hret _ _ ?_
     refine za (v := .bool false) hA rfl (.cons (qk rfl) .nil) rfl ?_
     subst hr
     exact ⟨by unfold kp; simp_all; try omega, hM.bel⟩
 · refine qa (v := .bool false) hA rfl rfl rfl (qp rfl qt) ?_
   intro a hA
   refine qa hA rfl rfl rfl (qe rfl) ?_
   intro a hA
   refine qj hA rfl rfl rfl ?_
   intro a hA
   refine qj hA rfl rfl rfl ?_
   intro a hA
   refine qj hA rfl rfl rfl ?_
   intro a hA
   refine qj hA rfl rfl rfl ?_
   intro a hA
   refine qa (v := .bool false) hA rfl rfl rfl (ql rfl rfl rfl rfl) ?_
   intro a hA
   refine qa hA rfl rfl rfl (qe rfl) ?_
   intro a hA
   refine qj hA rfl rfl rfl ?_
   intro a hA
   refine qj hA rfl rfl rfl ?_
   intro a hA
   refine qj hA rfl rfl rfl ?_
   intro a hA
   refine qj hA rfl rfl rfl ?_
   intro a hA
   refine qa (v := .bool false) hA rfl rfl rfl (ql rfl rfl rfl rfl) ?_
   intro a hA
   refine qa hA rfl rfl rfl (qb rfl) ?_
   intro a hA
   refine qf ?_
   refine hK4 _ _ ?_
   refine wp_ret ?_
   refine hret _ _ ?_
   refine za (v := .bool false) hA rfl (.cons (qk rfl) .nil) rfl ?_
   subst hr
   exact ⟨by unfold kp; simp_all; try omega, hM.bel⟩
theorem qbf {w : World} {b : Bool} {o1 o2 : Option Addr} {m1 m2 c1 c2 : Nat} (h1 : m1 ≤ 9223372036854775807) (h2 : m2 ≤ 9223372036854775807) {r : Bool} (hr : kp b m1 m2 = r) : Calls Tryz.prog 136 #[.agg #[.bool b, .slice o1 m1 c1, .slice o2 m2 c2]] w fun e w' => e = .returned (.bool r) ∧ Below w.heap.size w w' := by
 have hM : Mg w w ([]) := Mg.start w
 refine qz (l := [(0, .agg #[.bool b, .slice o1 m1 c1, .slice o2 m2 c2])]) Tryz.func136 rfl Tryz.ntmps136 rfl rfl ?_
 intro Q hret hnorm hP a hA
 refine wp_seq_k (fun K1 hK1 => ?_)
 refine wp_region_lit ?_
 refine jk (vs := [.bool b, .slice o1 m1 c1, .slice o2 m2 c2]) (t := 24) hA hM rfl rfl rfl (fun g => .pointer (some ⟨g, 0, none⟩)) (zg rfl rfl) (by decide) ?_
 intro g2 w3 hM a hA
 refine qa hA rfl rfl rfl (qb rfl) ?_
 intro a hA
 refine qf ?_
 refine hK1 _ _ ?_
 refine wp_seq_k (fun K4 hK4 => ?_)
 refine wp_region_lit ?_
 refine qa (v := .pointer (some ⟨g2, 0, none⟩)) hA rfl rfl rfl (qi TrB_fld_24_0 rfl rfl) ?_
 intro a hA
 refine qa hA rfl rfl rfl (zl hM TrB_is1_4 rfl 0 rfl rfl) ?_
 intro a hA
 rcases b with _ | _
 · refine qa (v := .bool true) hA rfl rfl rfl (qp rfl qt) ?_
   intro a hA
   refine qa hA rfl rfl rfl (qe rfl) ?_
   intro a hA
   refine qa (v := .pointer (some ⟨g2, 1, none⟩)) hA rfl rfl rfl (qi TrB_fld_24_1 rfl rfl) ?_
   intro a hA
   refine qa hA rfl rfl rfl (zl hM TrB_is1_22 rfl 0 rfl rfl) ?_
   intro a hA
   refine qa (v := .int .i64 (((m1 : Nat) : Int))) hA rfl rfl rfl (zb Tryz.underlying22 rfl) ?_
   intro a hA
   refine qa (v := .pointer (some ⟨g2, 2, none⟩)) hA rfl rfl rfl (qi TrB_fld_24_2 rfl rfl) ?_
   intro a hA
   refine qa hA rfl rfl rfl (zl hM TrB_is1_22 rfl 0 rfl rfl) ?_
   intro a hA
   refine qa (v := .int .i64 (((m2 : Nat) : Int))) hA rfl rfl rfl (zb Tryz.underlying22 rfl) ?_
   intro a hA
   refine qa (v := .int .i64 (IntKind.i64.wrap (((m1 : Nat) : Int) + ((m2 : Nat) : Int)))) hA rfl rfl rfl (qg rfl rfl (ar_add rfl)) ?_
   intro a hA
   rcases Bool.eq_false_or_eq_true ((IntKind.i64.wrap (((m1 : Nat) : Int) + ((m2 : Nat) : Int)) == 0)) with hb5 | hb5
   · have hb5' := eq_of_beq hb5
     refine qa (v := .bool true) hA rfl rfl rfl (qg rfl rfl (fun w => (qx w).trans (by rw [hb5]))) ?_
     intro a hA
     refine qa (v := .bool true) hA rfl rfl rfl (ql rfl rfl rfl rfl) ?_
     intro a hA
     refine qa hA rfl rfl rfl (qb rfl) ?_
     intro a hA
     refine qf ?_
     refine hK4 _ _ ?_
     refine wp_ret ?_
     refine hret _ _ ?_
     refine za (v := .bool true) hA rfl (.cons (qk rfl) .nil) rfl ?_
     subst hr
     have e9 := qkf h1 h2
     try rw [e9] at hb5
     exact ⟨by unfold kp; simp_all; try omega, hM.bel⟩
   · have hb5' := ne_of_beq_false hb5
     refine qa (v := .bool false) hA rfl rfl rfl (qg rfl rfl (fun w => (qx w).trans (by rw [hb5]))) ?_
     intro a hA
     refine qa (v := .bool false) hA rfl rfl rfl (ql rfl rfl rfl rfl) ?_
     intro a hA
     refine qa hA rfl rfl rfl (qb rfl) ?_
     intro a hA
     refine qf ?_
     refine hK4 _ _ ?_
     refine wp_ret ?_
     refine hret _ _ ?_
     refine za (v := .bool false) hA rfl (.cons (qk rfl) .nil) rfl ?_
     subst hr
     have e9 := qkf h1 h2
     try rw [e9] at hb5
     exact ⟨by unfold kp; simp_all; try omega, hM.bel⟩
 · refine qa (v := .bool false) hA rfl rfl rfl (qp rfl qt) ?_
   intro a hA
   refine qa hA rfl rfl rfl (qe rfl) ?_
   intro a hA
   refine qj hA rfl rfl rfl ?_
   intro a hA
   refine qj hA rfl rfl rfl ?_
   intro a hA
   refine qj hA rfl rfl rfl ?_
   intro a hA
   refine qj hA rfl rfl rfl ?_
   intro a hA
   refine qj hA rfl rfl rfl ?_
   intro a hA
   refine qj hA rfl rfl rfl ?_
   intro a hA
   refine qj hA rfl rfl rfl ?_
   intro a hA
   refine qj hA rfl rfl rfl ?_
   intro a hA
   refine qa (v := .bool false) hA rfl rfl rfl (ql rfl rfl rfl rfl) ?_
   intro a hA
   refine qa hA rfl rfl rfl (qb rfl) ?_
   intro a hA
   refine qf ?_
   refine hK4 _ _ ?_
   refine wp_ret ?_
   refine hret _ _ ?_
   refine za (v := .bool false) hA rfl (.cons (qk rfl) .nil) rfl ?_
   subst hr
   have e9 := qkf h1 h2
   exact ⟨by unfold kp; simp_all; try omega, hM.bel⟩
theorem bare_any {w : World} {k n : Int} {b1 b2 : Bool} {o1 o2 o3 o4 ro lo : Option Addr} {m1 m2 m3 m4 mr ml c1 c2 c3 c4 rc lc : Nat} {s : ByteArray} (h1 : m1 ≤ 9223372036854775807) (h2 : m2 ≤ 9223372036854775807) (h3 : m3 ≤ 9223372036854775807) (h4 : m4 ≤ 9223372036854775807) {r : Bool} (hr : vq n b1 m1 m2 b2 m3 m4 s mr ml = r) : Calls Tryz.prog 131 #[.agg #[.int .i64 k, .int .i64 n, .bool b1, .slice o1 m1 c1, .slice o2 m2 c2, .bool b2, .slice o3 m3 c3, .slice o4 m4 c4, .string s, .slice ro mr rc, .slice lo ml lc]] w fun e w' => e = .returned (.bool r) ∧ Below w.heap.size w w' := by
 have hM : Mg w w ([]) := Mg.start w
 refine qz (l := [(0, .agg #[.int .i64 k, .int .i64 n, .bool b1, .slice o1 m1 c1, .slice o2 m2 c2, .bool b2, .slice o3 m3 c3, .slice o4 m4 c4, .string s, .slice ro mr rc, .slice lo ml lc])]) Tryz.func131 rfl Tryz.ntmps131 rfl rfl ?_
 intro Q hret hnorm hP a hA
 refine wp_seq_k (fun K1 hK1 => ?_)
 refine wp_region_lit ?_
 refine jk (vs := [.int .i64 k, .int .i64 n, .bool b1, .slice o1 m1 c1, .slice o2 m2 c2, .bool b2, .slice o3 m3 c3, .slice o4 m4 c4, .string s, .slice ro mr rc, .slice lo ml lc]) (t := 30) hA hM rfl rfl rfl (fun g => .pointer (some ⟨g, 0, none⟩)) (zg rfl rfl) (by decide) ?_
 intro g2 w3 hM a hA
 refine qa hA rfl rfl rfl (qb rfl) ?_
 intro a hA
 refine qf ?_
 refine hK1 _ _ ?_
 refine wp_seq_k (fun K4 hK4 => ?_)
 refine wp_region_lit ?_
 refine qa (v := .pointer (some ⟨g2, 1, none⟩)) hA rfl rfl rfl (qi TrB_fld_30_1 rfl rfl) ?_
 intro a hA
 refine qa hA rfl rfl rfl (zl hM TrB_is1_3 rfl 0 rfl rfl) ?_
 intro a hA
 rcases Bool.eq_false_or_eq_true ((n == 0)) with hb5 | hb5
 · have hb5' := eq_of_beq hb5
   refine qa (v := .bool true) hA rfl rfl rfl (qg rfl rfl (fun w => (qx w).trans (by rw [hb5]))) ?_
   intro a hA
   refine qa hA rfl rfl rfl (qe rfl) ?_
   intro a hA
   refine qa (v := .pointer (some ⟨g2, 2, none⟩)) hA rfl rfl rfl (qi TrB_fld_30_2 rfl rfl) ?_
   intro a hA
   refine qa (v := .pointer (some ⟨g2, 2, none⟩)) hA rfl rfl rfl (qi TrB_fld_26_0 rfl rfl) ?_
   intro a hA
   refine qa hA rfl rfl rfl (ja hM TrB_isS_24 rfl 0 rfl (cs := [.bool b1, .slice o1 m1 c1, .slice o2 m2 c2]) rfl rfl) ?_
   intro a hA
   rcases Bool.eq_false_or_eq_true (kp b1 m1 m2) with hb6 | hb6
   · refine qm hA rfl rfl rfl (qh rfl rfl (fun w => by kernel_rfl)) (yn h1 h2 hb6) ?_
     rintro _ w8 ⟨rfl, hb7⟩
     replace hM := hM.call hb7
     refine ⟨_, rfl, ?_⟩
     intro a hA
     refine qa (v := .bool true) hA rfl rfl rfl (ql rfl rfl rfl rfl) ?_
     intro a hA
     refine qa hA rfl rfl rfl (qe rfl) ?_
     intro a hA
     refine qa (v := .pointer (some ⟨g2, 2, none⟩)) hA rfl rfl rfl (qi TrB_fld_30_2 rfl rfl) ?_
     intro a hA
     refine qa (v := .pointer (some ⟨g2, 5, none⟩)) hA rfl rfl rfl (qi TrB_fld_26_1 rfl rfl) ?_
     intro a hA
     refine qa hA rfl rfl rfl (ja hM TrB_isS_24 rfl 0 rfl (cs := [.bool b2, .slice o3 m3 c3, .slice o4 m4 c4]) rfl rfl) ?_
     intro a hA
     rcases Bool.eq_false_or_eq_true (kp b2 m3 m4) with hb9 | hb9
     · refine qm hA rfl rfl rfl (qh rfl rfl (fun w => by kernel_rfl)) (yn h3 h4 hb9) ?_
       rintro _ w11 ⟨rfl, hb10⟩
       replace hM := hM.call hb10
       refine ⟨_, rfl, ?_⟩
       intro a hA
       refine qa (v := .bool true) hA rfl rfl rfl (ql rfl rfl rfl rfl) ?_
       intro a hA
       refine qa hA rfl rfl rfl (qe rfl) ?_
       intro a hA
       refine qa (v := .pointer (some ⟨g2, 8, none⟩)) hA rfl rfl rfl (qi TrB_fld_30_3 rfl rfl) ?_
       intro a hA
       refine qa hA rfl rfl rfl (zl hM TrB_is1_9 rfl 0 rfl rfl) ?_
       intro a hA
       rcases Bool.eq_false_or_eq_true (decide (s = ⟨#[]⟩)) with hb12 | hb12
       · have hb12' := of_decide_eq_true hb12
         refine qa (v := .bool true) hA rfl rfl rfl (qg rfl rfl (fun w => (zq Tryz.underlying9 w).trans (by rw [hb12] <;> rfl))) ?_
         intro a hA
         refine qa (v := .bool true) hA rfl rfl rfl (ql rfl rfl rfl rfl) ?_
         intro a hA
         refine qa hA rfl rfl rfl (qe rfl) ?_
         intro a hA
         refine qa (v := .pointer (some ⟨g2, 9, none⟩)) hA rfl rfl rfl (qi TrB_fld_30_4 rfl rfl) ?_
         intro a hA
         refine qa hA rfl rfl rfl (zl hM TrB_is1_27 rfl 0 rfl rfl) ?_
         intro a hA
         refine qa (v := .int .i64 (((mr : Nat) : Int))) hA rfl rfl rfl (zb Tryz.underlying27 rfl) ?_
         intro a hA
         rcases Bool.eq_false_or_eq_true ((((mr : Nat) : Int) == 0)) with hb13 | hb13
         · have hb13' := eq_of_beq hb13
           refine qa (v := .bool true) hA rfl rfl rfl (qg rfl rfl (fun w => (qx w).trans (by rw [hb13]))) ?_
           intro a hA
           refine qa (v := .bool true) hA rfl rfl rfl (ql rfl rfl rfl rfl) ?_
           intro a hA
           refine qa hA rfl rfl rfl (qe rfl) ?_
           intro a hA
           refine qa (v := .pointer (some ⟨g2, 10, none⟩)) hA rfl rfl rfl (qi TrB_fld_30_5 rfl rfl) ?_
           intro a hA
           refine qa hA rfl rfl rfl (zl hM TrB_is1_28 rfl 0 rfl rfl) ?_
           intro a hA
           refine qa (v := .int .i64 (((ml : Nat) : Int))) hA rfl rfl rfl (zb Tryz.underlying28 rfl) ?_
           intro a hA
           rcases Bool.eq_false_or_eq_true ((((ml : Nat) : Int) == 0)) with hb14 | hb14
           · have hb14' := eq_of_beq hb14
             refine qa (v := .bool true) hA rfl rfl rfl (qg rfl rfl (fun w => (qx w).trans (by rw [hb14]))) ?_
             intro a hA
             refine qa (v := .bool true) hA rfl rfl rfl (ql rfl rfl rfl rfl) ?_
             intro a hA
             refine qa hA rfl rfl rfl (qb rfl) ?_
             intro a hA
             refine qf ?_
             refine hK4 _ _ ?_
             refine wp_ret ?_
             refine hret _ _ ?_
             refine za (v := .bool true) hA rfl (.cons (qk rfl) .nil) rfl ?_
             subst hr
             exact ⟨by unfold vq; simp_all, hM.bel⟩
           · have hb14' := ne_of_beq_false hb14
             refine qa (v := .bool false) hA rfl rfl rfl (qg rfl rfl (fun w => (qx w).trans (by rw [hb14]))) ?_
             intro a hA
             refine qa (v := .bool false) hA rfl rfl rfl (ql rfl rfl rfl rfl) ?_
             intro a hA
             refine qa hA rfl rfl rfl (qb rfl) ?_
             intro a hA
             refine qf ?_
             refine hK4 _ _ ?_
             refine wp_ret ?_
             refine hret _ _ ?_
             refine za (v := .bool false) hA rfl (.cons (qk rfl) .nil) rfl ?_
             subst hr
             exact ⟨by unfold vq; simp_all, hM.bel⟩
         · have hb13' := ne_of_beq_false hb13
           refine qa (v := .bool false) hA rfl rfl rfl (qg rfl rfl (fun w => (qx w).trans (by rw [hb13]))) ?_
           intro a hA
           refine qa (v := .bool false) hA rfl rfl rfl (ql rfl rfl rfl rfl) ?_
           intro a hA
           refine qa hA rfl rfl rfl (qe rfl) ?_
           intro a hA
           refine qj hA rfl rfl rfl ?_
           intro a hA
           refine qj hA rfl rfl rfl ?_
           intro a hA
           refine qj hA rfl rfl rfl ?_
           intro a hA
           refine qj hA rfl rfl rfl ?_
           intro a hA
           refine qa (v := .bool false) hA rfl rfl rfl (ql rfl rfl rfl rfl) ?_
           intro a hA
           refine qa hA rfl rfl rfl (qb rfl) ?_
           intro a hA
           refine qf ?_
           refine hK4 _ _ ?_
           refine wp_ret ?_
           refine hret _ _ ?_
           refine za (v := .bool false) hA rfl (.cons (qk rfl) .nil) rfl ?_
           subst hr
           exact ⟨by unfold vq; simp_all, hM.bel⟩
       · have hb12' := of_decide_eq_false hb12
         refine qa (v := .bool false) hA rfl rfl rfl (qg rfl rfl (fun w => (zq Tryz.underlying9 w).trans (by rw [hb12] <;> rfl))) ?_
         intro a hA
         refine qa (v := .bool false) hA rfl rfl rfl (ql rfl rfl rfl rfl) ?_
         intro a hA
         refine qa hA rfl rfl rfl (qe rfl) ?_
         intro a hA
         refine qj hA rfl rfl rfl ?_
         intro a hA
         refine qj hA rfl rfl rfl ?_
         intro a hA
         refine qj hA rfl rfl rfl ?_
         intro a hA
         refine qj hA rfl rfl rfl ?_
         intro a hA
         refine qa (v := .bool false) hA rfl rfl rfl (ql rfl rfl rfl rfl) ?_
         intro a hA
         refine qa hA rfl rfl rfl (qe rfl) ?_
         intro a hA
         refine qj hA rfl rfl rfl ?_
         intro a hA
         refine qj hA rfl rfl rfl ?_
         intro a hA
         refine qj hA rfl rfl rfl ?_
         intro a hA
         refine qj hA rfl rfl rfl ?_
         intro a hA
         refine qa (v := .bool false) hA rfl rfl rfl (ql rfl rfl rfl rfl) ?_
         intro a hA
         refine qa hA rfl rfl rfl (qb rfl) ?_
         intro a hA
         refine qf ?_
         refine hK4 _ _ ?_
         refine wp_ret ?_
         refine hret _ _ ?_
         refine za (v := .bool false) hA rfl (.cons (qk rfl) .nil) rfl ?_
         subst hr
         exact ⟨by unfold vq; simp_all, hM.bel⟩
     · refine qm hA rfl rfl rfl (qh rfl rfl (fun w => by kernel_rfl)) (yn h3 h4 hb9) ?_
       rintro _ w16 ⟨rfl, hb15⟩
       replace hM := hM.call hb15
       refine ⟨_, rfl, ?_⟩
       intro a hA
       refine qa (v := .bool false) hA rfl rfl rfl (ql rfl rfl rfl rfl) ?_
       intro a hA
       refine qa hA rfl rfl rfl (qe rfl) ?_
       intro a hA
       refine qj hA rfl rfl rfl ?_
       intro a hA
       refine qj hA rfl rfl rfl ?_
       intro a hA
       refine qj hA rfl rfl rfl ?_
       intro a hA
       refine qa (v := .bool false) hA rfl rfl rfl (ql rfl rfl rfl rfl) ?_
       intro a hA
       refine qa hA rfl rfl rfl (qe rfl) ?_
       intro a hA
       refine qj hA rfl rfl rfl ?_
       intro a hA
       refine qj hA rfl rfl rfl ?_
       intro a hA
       refine qj hA rfl rfl rfl ?_
       intro a hA
       refine qj hA rfl rfl rfl ?_
       intro a hA
       refine qa (v := .bool false) hA rfl rfl rfl (ql rfl rfl rfl rfl) ?_
       intro a hA
       refine qa hA rfl rfl rfl (qe rfl) ?_
       intro a hA
       refine qj hA rfl rfl rfl ?_
       intro a hA
       refine qj hA rfl rfl rfl ?_
       intro a hA
       refine qj hA rfl rfl rfl ?_
       intro a hA
       refine qj hA rfl rfl rfl ?_
       intro a hA
       refine qa (v := .bool false) hA rfl rfl rfl (ql rfl rfl rfl rfl) ?_
       intro a hA
       refine qa hA rfl rfl rfl (qb rfl) ?_
       intro a hA
       refine qf ?_
       refine hK4 _ _ ?_
       refine wp_ret ?_
       refine hret _ _ ?_
       refine za (v := .bool false) hA rfl (.cons (qk rfl) .nil) rfl ?_
       subst hr
       exact ⟨by unfold vq; simp_all, hM.bel⟩
   · refine qm hA rfl rfl rfl (qh rfl rfl (fun w => by kernel_rfl)) (yn h1 h2 hb6) ?_
     rintro _ w18 ⟨rfl, hb17⟩
     replace hM := hM.call hb17
     refine ⟨_, rfl, ?_⟩
     intro a hA
     refine qa (v := .bool false) hA rfl rfl rfl (ql rfl rfl rfl rfl) ?_
     intro a hA
     refine qa hA rfl rfl rfl (qe rfl) ?_
     intro a hA
     refine qj hA rfl rfl rfl ?_
     intro a hA
     refine qj hA rfl rfl rfl ?_
     intro a hA
     refine qj hA rfl rfl rfl ?_
     intro a hA
     refine qj hA rfl rfl rfl ?_
     intro a hA
     refine qa (v := .bool false) hA rfl rfl rfl (ql rfl rfl rfl rfl) ?_
     intro a hA
     refine qa hA rfl rfl rfl (qe rfl) ?_
     intro a hA
     refine qj hA rfl rfl rfl ?_
     intro a hA
     refine qj hA rfl rfl rfl ?_
     intro a hA
     refine qj hA rfl rfl rfl ?_
     intro a hA
     refine qa (v := .bool false) hA rfl rfl rfl (ql rfl rfl rfl rfl) ?_
     intro a hA
     refine qa hA rfl rfl rfl (qe rfl) ?_
     intro a hA
     refine qj hA rfl rfl rfl ?_
     intro a hA
     refine qj hA rfl rfl rfl ?_
     intro a hA
     refine qj hA rfl rfl rfl ?_
     intro a hA
     refine qj hA rfl rfl rfl ?_
     intro a hA
     refine qa (v := .bool false) hA rfl rfl rfl (ql rfl rfl rfl rfl) ?_
     intro a hA
     refine qa hA rfl rfl rfl (qe rfl) ?_
     intro a hA
     refine qj hA rfl rfl rfl ?_
     intro a hA
     refine qj hA rfl rfl rfl ?_
     intro a hA
     refine qj hA rfl rfl rfl ?_
     intro a hA
     refine qj hA rfl rfl rfl ?_
     intro a hA
     refine qa (v := .bool false) hA rfl rfl rfl (ql rfl rfl rfl rfl) ?_
     intro a hA
     refine qa hA rfl rfl rfl (qb rfl) ?_
     intro a hA
     refine qf ?_
     refine hK4 _ _ ?_
     refine wp_ret ?_
     refine hret _ _ ?_
     refine za (v := .bool false) hA rfl (.cons (qk rfl) .nil) rfl ?_
     subst hr
     exact ⟨by unfold vq; simp_all, hM.bel⟩
 · have hb5' := ne_of_beq_false hb5
   refine qa (v := .bool false) hA rfl rfl rfl (qg rfl rfl (fun w => (qx w).trans (by rw [hb5]))) ?_
   intro a hA
   refine qa hA rfl rfl rfl (qe rfl) ?_
   intro a hA
   refine qj hA rfl rfl rfl ?_
   intro a hA
   refine qj hA rfl rfl rfl ?_
   intro a hA
   refine qj hA rfl rfl rfl ?_
   intro a hA
   refine qj hA rfl rfl rfl ?_
   intro a hA
   refine qa (v := .bool false) hA rfl rfl rfl (ql rfl rfl rfl rfl) ?_
   intro a hA
   refine qa hA rfl rfl rfl (qe rfl) ?_
   intro a hA
   refine qj hA rfl rfl rfl ?_
   intro a hA
   refine qj hA rfl rfl rfl ?_
   intro a hA
   refine qj hA rfl rfl rfl ?_
   intro a hA
   refine qj hA rfl rfl rfl ?_
   intro a hA
   refine qa (v := .bool false) hA rfl rfl rfl (ql rfl rfl rfl rfl) ?_
   intro a hA
   refine qa hA rfl rfl rfl (qe rfl) ?_
   intro a hA
   refine qj hA rfl rfl rfl ?_
   intro a hA
   refine qj hA rfl rfl rfl ?_
   intro a hA
   refine qj hA rfl rfl rfl ?_
   intro a hA
   refine qa (v := .bool false) hA rfl rfl rfl (ql rfl rfl rfl rfl) ?_
   intro a hA
   refine qa hA rfl rfl rfl (qe rfl) ?_
   intro a hA
   refine qj hA rfl rfl rfl ?_
   intro a hA
   refine qj hA rfl rfl rfl ?_
   intro a hA
   refine qj hA rfl rfl rfl ?_
   intro a hA
   refine qj hA rfl rfl rfl ?_
   intro a hA
   refine qa (v := .bool false) hA rfl rfl rfl (ql rfl rfl rfl rfl) ?_
   intro a hA
   refine qa hA rfl rfl rfl (qe rfl) ?_
   intro a hA
   refine qj hA rfl rfl rfl ?_
   intro a hA
   refine qj hA rfl rfl rfl ?_
   intro a hA
   refine qj hA rfl rfl rfl ?_
   intro a hA
   refine qj hA rfl rfl rfl ?_
   intro a hA
   refine qa (v := .bool false) hA rfl rfl rfl (ql rfl rfl rfl rfl) ?_
   intro a hA
   refine qa hA rfl rfl rfl (qb rfl) ?_
   intro a hA
   refine qf ?_
   refine hK4 _ _ ?_
   refine wp_ret ?_
   refine hret _ _ ?_
   refine za (v := .bool false) hA rfl (.cons (qk rfl) .nil) rfl ?_
   subst hr
   exact ⟨by unfold vq; simp_all, hM.bel⟩
theorem qkg {w : World} {d : Nd} {ts : List Dt} (hok : NdOk w d) (hT : Tabs8 w) : Calls Tryz.prog 82 #[.agg (d.cells ts.length).toArray] w fun e w' => e = .returned (.bool (jw d.k d.n d.y.q d.s d.rl.length ts.length)) ∧ Below w.heap.size w w' := by
 have hq1 := hok.len.l1
 have hq2 := hok.len.l2
 have hq3 := hok.len.l3
 have hq4 := hok.len.l4
 have hM : Mg w w ([]) := Mg.start w
 refine qz (l := [(0, .agg (d.cells ts.length).toArray)]) Tryz.func82 rfl Tryz.ntmps82 rfl rfl ?_
 intro Q hret hnorm hP a hA
 refine wp_seq_k (fun K1 hK1 => ?_)
 refine wp_region_lit ?_
 refine jk (vs := [.int .i64 d.k, .int .i64 d.n, .bool d.y.q.b1, .slice d.y.o1 d.y.q.t1.length d.y.c1, .slice d.y.o2 d.y.q.q1.length d.y.c2, .bool d.y.q.b2, .slice d.y.o3 d.y.q.t2.length d.y.c3, .slice d.y.o4 d.y.q.q2.length d.y.c4, .string d.s, .slice d.ro d.rl.length d.rc, .slice d.lo ts.length d.lc]) (t := 30) hA hM rfl rfl rfl (fun g => .pointer (some ⟨g, 0, none⟩)) (zg rfl rfl) (by decide) ?_
 intro g2 w3 hM a hA
 refine qa hA rfl rfl rfl (qb rfl) ?_
 intro a hA
 refine qf ?_
 refine hK1 _ _ ?_
 refine wp_seq_k (fun K4 hK4 => ?_)
 refine wp_region_lit ?_
 refine qa hA rfl rfl rfl (qb rfl) ?_
 intro a hA
 refine qf ?_
 refine hK4 _ _ ?_
 refine wp_seq_k (fun K5 hK5 => ?_)
 have hJ6 : ∀ a w1, (∃ (ok : Bool) (z1 : Int) (z2 : Bool) (y1 : Option Addr) (m1 : Nat) (e1 : Nat) (y2 : Option Addr) (m2 : Nat) (e2 : Nat) (z3 : Bool) (y3 : Option Addr) (m3 : Nat) (e3 : Nat) (y4 : Option Addr) (m4 : Nat) (e4 : Nat) (zs : ByteArray) (yr : Option Addr) (mr : Nat) (er : Nat) (yl : Option Addr) (ml : Nat) (el : Nat), (jw d.k d.n d.y.q d.s d.rl.length ts.length = (ok && vq z1 z2 m1 m2 z3 m3 m4 zs mr ml) ∧ m1 ≤ 9223372036854775807 ∧ m2 ≤ 9223372036854775807 ∧ m3 ≤ 9223372036854775807 ∧ m4 ≤ 9223372036854775807) ∧ Sl a 59 [(0, .agg (d.cells ts.length).toArray), (1, .pointer (some ⟨g2, 0, none⟩)), (2, .bool false), (3, .bool ok)] ∧ Mg w w1 (.obj g2 (.cells #[.int .i64 d.k, .int .i64 z1, .bool z2, .slice y1 m1 e1, .slice y2 m2 e2, .bool z3, .slice y3 m3 e3, .slice y4 m4 e4, .string zs, .slice yr mr er, .slice yl ml el] 30) :: [])) → K5 a w1 := by
   clear hA hM
   rintro a w7 ⟨ok, z1, z2, y1, m1, e1, y2, m2, e2, z3, y3, m3, e3, y4, m4, e4, zs, yr, mr, er, yl, ml, el, hf8, hA, hM⟩
   obtain ⟨hsh, hq1, hq2, hq3, hq4⟩ := hf8
   refine hK5 _ _ ?_
   refine wp_seq_k (fun K9 hK9 => ?_)
   refine wp_region_lit ?_
   refine qa hA rfl rfl rfl (qe rfl) ?_
   intro a hA
   refine qa hA rfl rfl rfl (qe rfl) ?_
   intro a hA
   rcases ok with _ | _
   · refine qj hA rfl rfl rfl ?_
     intro a hA
     refine qj hA rfl rfl rfl ?_
     intro a hA
     refine qa (v := .bool false) hA rfl rfl rfl (ql rfl rfl rfl rfl) ?_
     intro a hA
     refine qa hA rfl rfl rfl (qb rfl) ?_
     intro a hA
     refine qf ?_
     refine hK9 _ _ ?_
     refine wp_ret ?_
     refine hret _ _ ?_
     refine za (v := .bool false) hA rfl (.cons (qk rfl) .nil) rfl ?_
     exact ⟨by rw [hsh]; rfl, hM.bel⟩
   · refine qa hA rfl rfl rfl (ja hM TrB_isS_30 rfl 0 rfl (cs := [.int .i64 d.k, .int .i64 z1, .bool z2, .slice y1 m1 e1, .slice y2 m2 e2, .bool z3, .slice y3 m3 e3, .slice y4 m4 e4, .string zs, .slice yr mr er, .slice yl ml el]) rfl rfl) ?_
     intro a hA
     refine qm hA rfl rfl rfl (qh rfl rfl (fun w => by kernel_rfl)) (bare_any (by first | exact hq1 | omega) (by first | exact hq2 | omega) (by first | exact hq3 | omega) (by first | exact hq4 | omega) rfl) ?_
     rintro _ w11 ⟨rfl, hb10⟩
     replace hM := hM.call hb10
     refine ⟨_, rfl, ?_⟩
     intro a hA
     refine qa (v := .bool (vq z1 z2 m1 m2 z3 m3 m4 zs mr ml)) hA rfl rfl rfl (ql rfl rfl rfl rfl) ?_
     intro a hA
     refine qa hA rfl rfl rfl (qb rfl) ?_
     intro a hA
     refine qf ?_
     refine hK9 _ _ ?_
     refine wp_ret ?_
     refine hret _ _ ?_
     refine za (v := .bool (vq z1 z2 m1 m2 z3 m3 m4 zs mr ml)) hA rfl (.cons (qk rfl) .nil) rfl ?_
     exact ⟨by rw [hsh]; rfl, hM.bel⟩
 refine wp_seq_k (fun K12 hK12 => ?_)
 refine wp_region_lit ?_
 refine qa (v := .pointer (some ⟨g2, 0, none⟩)) hA rfl rfl rfl (qi TrB_fld_30_0 rfl rfl) ?_
 intro a hA
 refine qa hA rfl rfl rfl (zl hM TrB_is1_3 rfl 0 rfl rfl) ?_
 intro a hA
 refine qf ?_
 refine hK12 _ _ ?_
 refine wp_block ?_
 refine wp_seq_k (fun K13 hK13 => ?_)
 refine wp_seq_k (fun K14 hK14 => ?_)
 refine wp_region_lit ?_
 rcases Bool.eq_false_or_eq_true ((d.k == 1)) with hb15 | hb15
 · have hb15' := eq_of_beq hb15
   refine qa (v := .bool true) hA rfl rfl rfl (qg rfl rfl (fun w => (qx w).trans (by rw [hb15]))) ?_
   intro a hA
   refine qa hA rfl rfl rfl (qb rfl) ?_
   intro a hA
   refine qf ?_
   refine hK14 _ _ ?_
   refine wp_cond_true (hA.ev rfl) ?_
   refine wp_skip ?_
   refine hK13 _ _ ?_
   refine wp_cond_true (hA.ev rfl) ?_
   refine wp_skip ?_
   exact hJ6 _ _ ⟨true, d.n, d.y.q.b1, d.y.o1, d.y.q.t1.length, d.y.c1, d.y.o2, d.y.q.q1.length, d.y.c2, d.y.q.b2, d.y.o3, d.y.q.t2.length, d.y.c3, d.y.o4, d.y.q.q2.length, d.y.c4, d.s, d.ro, d.rl.length, d.rc, d.lo, ts.length, d.lc, ⟨by
     unfold jw
     repeat (first | rw [if_pos (by omega)] | rw [if_neg (by omega)])
     first | rfl, by first | exact hq1 | decide, by first | exact hq2 | decide, by first | exact hq3 | decide, by first | exact hq4 | decide⟩, hA.keep _ ⟨rfl, rfl, rfl, rfl, trivial⟩, hM⟩
 · have hb15' := ne_of_beq_false hb15
   refine qa (v := .bool false) hA rfl rfl rfl (qg rfl rfl (fun w => (qx w).trans (by rw [hb15]))) ?_
   intro a hA
   refine qa hA rfl rfl rfl (qb rfl) ?_
   intro a hA
   refine qf ?_
   refine hK14 _ _ ?_
   refine wp_cond_false (hA.ev rfl) ?_
   refine wp_region_lit ?_
   rcases Bool.eq_false_or_eq_true ((d.k == 10)) with hb16 | hb16
   · have hb16' := eq_of_beq hb16
     refine qa (v := .bool true) hA rfl rfl rfl (qg rfl rfl (fun w => (qx w).trans (by rw [hb16]))) ?_
     intro a hA
     refine qa hA rfl rfl rfl (qb rfl) ?_
     intro a hA
     refine qf ?_
     refine hK13 _ _ ?_
     refine wp_cond_true (hA.ev rfl) ?_
     refine wp_skip ?_
     exact hJ6 _ _ ⟨true, d.n, d.y.q.b1, d.y.o1, d.y.q.t1.length, d.y.c1, d.y.o2, d.y.q.q1.length, d.y.c2, d.y.q.b2, d.y.o3, d.y.q.t2.length, d.y.c3, d.y.o4, d.y.q.q2.length, d.y.c4, d.s, d.ro, d.rl.length, d.rc, d.lo, ts.length, d.lc, ⟨by
       unfold jw
       repeat (first | rw [if_pos (by omega)] | rw [if_neg (by omega)])
       first | rfl, by first | exact hq1 | decide, by first | exact hq2 | decide, by first | exact hq3 | decide, by first | exact hq4 | decide⟩, hA.keep _ ⟨rfl, rfl, rfl, rfl, trivial⟩, hM⟩
   · have hb16' := ne_of_beq_false hb16
     refine qa (v := .bool false) hA rfl rfl rfl (qg rfl rfl (fun w => (qx w).trans (by rw [hb16]))) ?_
     intro a hA
     refine qa hA rfl rfl rfl (qb rfl) ?_
     intro a hA
     refine qf ?_
     refine hK13 _ _ ?_
     refine wp_cond_false (hA.ev rfl) ?_
     refine wp_seq_k (fun K17 hK17 => ?_)
     refine wp_region_lit ?_
     rcases Bool.eq_false_or_eq_true ((d.k == 2)) with hb18 | hb18
     · have hb18' := eq_of_beq hb18
       refine qa (v := .bool true) hA rfl rfl rfl (qg rfl rfl (fun w => (qx w).trans (by rw [hb18]))) ?_
       intro a hA
       refine qa hA rfl rfl rfl (qb rfl) ?_
       intro a hA
       refine qf ?_
       refine hK17 _ _ ?_
       refine wp_cond_true (hA.ev rfl) ?_
       refine wp_region_lit ?_
       refine qa (v := .pointer (some ⟨g2, 1, none⟩)) hA rfl rfl rfl (qi TrB_fld_30_1 rfl rfl) ?_
       intro a hA
       refine qa hA rfl rfl rfl (zl hM TrB_is1_3 rfl 0 rfl rfl) ?_
       intro a hA
       rcases Bool.eq_false_or_eq_true ((d.n == 0)) with hb19 | hb19
       · have hb19' := eq_of_beq hb19
         refine qa (v := .bool true) hA rfl rfl rfl (qg rfl rfl (fun w => (qx w).trans (by rw [hb19]))) ?_
         intro a hA
         refine qa hA rfl rfl rfl (qe rfl) ?_
         intro a hA
         refine qj hA rfl rfl rfl ?_
         intro a hA
         refine qj hA rfl rfl rfl ?_
         intro a hA
         refine qj hA rfl rfl rfl ?_
         intro a hA
         refine qa (v := .bool true) hA rfl rfl rfl (ql rfl rfl rfl rfl) ?_
         intro a hA
         refine qa hA rfl rfl rfl (qb rfl) ?_
         intro a hA
         refine qa (v := .pointer (some ⟨g2, 1, none⟩)) hA rfl rfl rfl (qi TrB_fld_30_1 rfl rfl) ?_
         intro a hA
         refine jb (us := [.int .i64 d.k, .int .i64 0, .bool d.y.q.b1, .slice d.y.o1 d.y.q.t1.length d.y.c1, .slice d.y.o2 d.y.q.q1.length d.y.c2, .bool d.y.q.b2, .slice d.y.o3 d.y.q.t2.length d.y.c3, .slice d.y.o4 d.y.q.q2.length d.y.c4, .string d.s, .slice d.ro d.rl.length d.rc, .slice d.lo ts.length d.lc]) (L' := (.obj g2 (.cells #[.int .i64 d.k, .int .i64 0, .bool d.y.q.b1, .slice d.y.o1 d.y.q.t1.length d.y.c1, .slice d.y.o2 d.y.q.q1.length d.y.c2, .bool d.y.q.b2, .slice d.y.o3 d.y.q.t2.length d.y.c3, .slice d.y.o4 d.y.q.q2.length d.y.c4, .string d.s, .slice d.ro d.rl.length d.rc, .slice d.lo ts.length d.lc] 30) :: [])) hA hM rfl rfl (zu rfl rfl rfl (by kernel_rfl) hM 0 rfl rfl rfl) 0 rfl rfl rfl ?_
         intro w20 hM
         refine qf ?_
         exact hJ6 _ _ ⟨true, 0, d.y.q.b1, d.y.o1, d.y.q.t1.length, d.y.c1, d.y.o2, d.y.q.q1.length, d.y.c2, d.y.q.b2, d.y.o3, d.y.q.t2.length, d.y.c3, d.y.o4, d.y.q.q2.length, d.y.c4, d.s, d.ro, d.rl.length, d.rc, d.lo, ts.length, d.lc, ⟨by
           unfold jw
           repeat (first | rw [if_pos (by omega)] | rw [if_neg (by omega)])
           first | rfl | (rw [decide_eq_true (show (d.n = 0 ∨ d.n = 1) by omega)]), by first | exact hq1 | decide, by first | exact hq2 | decide, by first | exact hq3 | decide, by first | exact hq4 | decide⟩, hA.keep _ ⟨rfl, rfl, rfl, rfl, trivial⟩, hM⟩
       · have hb19' := ne_of_beq_false hb19
         refine qa (v := .bool false) hA rfl rfl rfl (qg rfl rfl (fun w => (qx w).trans (by rw [hb19]))) ?_
         intro a hA
         refine qa hA rfl rfl rfl (qe rfl) ?_
         intro a hA
         refine qa (v := .pointer (some ⟨g2, 1, none⟩)) hA rfl rfl rfl (qi TrB_fld_30_1 rfl rfl) ?_
         intro a hA
         refine qa hA rfl rfl rfl (zl hM TrB_is1_3 rfl 0 rfl rfl) ?_
         intro a hA
         rcases Bool.eq_false_or_eq_true ((d.n == 1)) with hb21 | hb21
         · have hb21' := eq_of_beq hb21
           refine qa (v := .bool true) hA rfl rfl rfl (qg rfl rfl (fun w => (qx w).trans (by rw [hb21]))) ?_
           intro a hA
           refine qa (v := .bool true) hA rfl rfl rfl (ql rfl rfl rfl rfl) ?_
           intro a hA
           refine qa hA rfl rfl rfl (qb rfl) ?_
           intro a hA
           refine qa (v := .pointer (some ⟨g2, 1, none⟩)) hA rfl rfl rfl (qi TrB_fld_30_1 rfl rfl) ?_
           intro a hA
           refine jb (us := [.int .i64 d.k, .int .i64 0, .bool d.y.q.b1, .slice d.y.o1 d.y.q.t1.length d.y.c1, .slice d.y.o2 d.y.q.q1.length d.y.c2, .bool d.y.q.b2, .slice d.y.o3 d.y.q.t2.length d.y.c3, .slice d.y.o4 d.y.q.q2.length d.y.c4, .string d.s, .slice d.ro d.rl.length d.rc, .slice d.lo ts.length d.lc]) (L' := (.obj g2 (.cells #[.int .i64 d.k, .int .i64 0, .bool d.y.q.b1, .slice d.y.o1 d.y.q.t1.length d.y.c1, .slice d.y.o2 d.y.q.q1.length d.y.c2, .bool d.y.q.b2, .slice d.y.o3 d.y.q.t2.length d.y.c3, .slice d.y.o4 d.y.q.q2.length d.y.c4, .string d.s, .slice d.ro d.rl.length d.rc, .slice d.lo ts.length d.lc] 30) :: [])) hA hM rfl rfl (zu rfl rfl rfl (by kernel_rfl) hM 0 rfl rfl rfl) 0 rfl rfl rfl ?_
           intro w22 hM
           refine qf ?_
           exact hJ6 _ _ ⟨true, 0, d.y.q.b1, d.y.o1, d.y.q.t1.length, d.y.c1, d.y.o2, d.y.q.q1.length, d.y.c2, d.y.q.b2, d.y.o3, d.y.q.t2.length, d.y.c3, d.y.o4, d.y.q.q2.length, d.y.c4, d.s, d.ro, d.rl.length, d.rc, d.lo, ts.length, d.lc, ⟨by
             unfold jw
             repeat (first | rw [if_pos (by omega)] | rw [if_neg (by omega)])
             first | rfl | (rw [decide_eq_true (show (d.n = 0 ∨ d.n = 1) by omega)]), by first | exact hq1 | decide, by first | exact hq2 | decide, by first | exact hq3 | decide, by first | exact hq4 | decide⟩, hA.keep _ ⟨rfl, rfl, rfl, rfl, trivial⟩, hM⟩
         · have hb21' := ne_of_beq_false hb21
           refine qa (v := .bool false) hA rfl rfl rfl (qg rfl rfl (fun w => (qx w).trans (by rw [hb21]))) ?_
           intro a hA
           refine qa (v := .bool false) hA rfl rfl rfl (ql rfl rfl rfl rfl) ?_
           intro a hA
           refine qa hA rfl rfl rfl (qb rfl) ?_
           intro a hA
           refine qa (v := .pointer (some ⟨g2, 1, none⟩)) hA rfl rfl rfl (qi TrB_fld_30_1 rfl rfl) ?_
           intro a hA
           refine jb (us := [.int .i64 d.k, .int .i64 0, .bool d.y.q.b1, .slice d.y.o1 d.y.q.t1.length d.y.c1, .slice d.y.o2 d.y.q.q1.length d.y.c2, .bool d.y.q.b2, .slice d.y.o3 d.y.q.t2.length d.y.c3, .slice d.y.o4 d.y.q.q2.length d.y.c4, .string d.s, .slice d.ro d.rl.length d.rc, .slice d.lo ts.length d.lc]) (L' := (.obj g2 (.cells #[.int .i64 d.k, .int .i64 0, .bool d.y.q.b1, .slice d.y.o1 d.y.q.t1.length d.y.c1, .slice d.y.o2 d.y.q.q1.length d.y.c2, .bool d.y.q.b2, .slice d.y.o3 d.y.q.t2.length d.y.c3, .slice d.y.o4 d.y.q.q2.length d.y.c4, .string d.s, .slice d.ro d.rl.length d.rc, .slice d.lo ts.length d.lc] 30) :: [])) hA hM rfl rfl (zu rfl rfl rfl (by kernel_rfl) hM 0 rfl rfl rfl) 0 rfl rfl rfl ?_
           intro w23 hM
           refine qf ?_
           exact hJ6 _ _ ⟨false, 0, d.y.q.b1, d.y.o1, d.y.q.t1.length, d.y.c1, d.y.o2, d.y.q.q1.length, d.y.c2, d.y.q.b2, d.y.o3, d.y.q.t2.length, d.y.c3, d.y.o4, d.y.q.q2.length, d.y.c4, d.s, d.ro, d.rl.length, d.rc, d.lo, ts.length, d.lc, ⟨by
             unfold jw
             repeat (first | rw [if_pos (by omega)] | rw [if_neg (by omega)])
             first | rfl | (rw [decide_eq_false (show ¬ (d.n = 0 ∨ d.n = 1) by omega)]), by first | exact hq1 | decide, by first | exact hq2 | decide, by first | exact hq3 | decide, by first | exact hq4 | decide⟩, hA.keep _ ⟨rfl, rfl, rfl, rfl, trivial⟩, hM⟩
     · have hb18' := ne_of_beq_false hb18
       refine qa (v := .bool false) hA rfl rfl rfl (qg rfl rfl (fun w => (qx w).trans (by rw [hb18]))) ?_
       intro a hA
       refine qa hA rfl rfl rfl (qb rfl) ?_
       intro a hA
       refine qf ?_
       refine hK17 _ _ ?_
       refine wp_cond_false (hA.ev rfl) ?_
       refine wp_seq_k (fun K24 hK24 => ?_)
       refine wp_region_lit ?_
       rcases Bool.eq_false_or_eq_true ((d.k == 3)) with hb25 | hb25
       · have hb25' := eq_of_beq hb25
         refine qa (v := .bool true) hA rfl rfl rfl (qg rfl rfl (fun w => (qx w).trans (by rw [hb25]))) ?_
         intro a hA
         refine qa hA rfl rfl rfl (qb rfl) ?_
         intro a hA
         refine qf ?_
         refine hK24 _ _ ?_
         refine wp_cond_true (hA.ev rfl) ?_
         refine wp_region_lit ?_
         refine qa (v := .pointer (some ⟨g2, 2, none⟩)) hA rfl rfl rfl (qi TrB_fld_30_2 rfl rfl) ?_
         intro a hA
         refine qa hA rfl rfl rfl (ja hM TrB_isS_26 rfl 0 rfl (cs := [.bool d.y.q.b1, .slice d.y.o1 d.y.q.t1.length d.y.c1, .slice d.y.o2 d.y.q.q1.length d.y.c2, .bool d.y.q.b2, .slice d.y.o3 d.y.q.t2.length d.y.c3, .slice d.y.o4 d.y.q.q2.length d.y.c4]) rfl rfl) ?_
         intro a hA
         rcases Bool.eq_false_or_eq_true (jo d.y.q) with hb26 | hb26
         · refine qm hA rfl rfl rfl (qh rfl rfl (fun w => by kernel_rfl)) (vk (Nu.below hok.num hM.bel) hok.len hb26) ?_
           rintro _ w28 ⟨rfl, hb27⟩
           replace hM := hM.call hb27
           refine ⟨_, rfl, ?_⟩
           intro a hA
           refine qa (v := .agg #[.bool false, .slice none 0 0, .slice none 0 0, .bool false, .slice none 0 0, .slice none 0 0]) hA rfl rfl rfl (xr rfl (fun w => by kernel_rfl)) ?_
           intro a hA
           refine qa hA rfl rfl rfl (qb rfl) ?_
           intro a hA
           refine qa (v := .pointer (some ⟨g2, 2, none⟩)) hA rfl rfl rfl (qi TrB_fld_30_2 rfl rfl) ?_
           intro a hA
           refine jb (us := [.int .i64 d.k, .int .i64 d.n, .bool false, .slice none 0 0, .slice none 0 0, .bool false, .slice none 0 0, .slice none 0 0, .string d.s, .slice d.ro d.rl.length d.rc, .slice d.lo ts.length d.lc]) (L' := (.obj g2 (.cells #[.int .i64 d.k, .int .i64 d.n, .bool false, .slice none 0 0, .slice none 0 0, .bool false, .slice none 0 0, .slice none 0 0, .string d.s, .slice d.ro d.rl.length d.rc, .slice d.lo ts.length d.lc] 30) :: [])) hA hM rfl rfl (zu rfl rfl rfl (by kernel_rfl) hM 0 rfl rfl rfl) 0 rfl rfl rfl ?_
           intro w29 hM
           refine qf ?_
           exact hJ6 _ _ ⟨true, d.n, false, none, 0, 0, none, 0, 0, false, none, 0, 0, none, 0, 0, d.s, d.ro, d.rl.length, d.rc, d.lo, ts.length, d.lc, ⟨by
             unfold jw
             repeat (first | rw [if_pos (by omega)] | rw [if_neg (by omega)])
             first | rfl | rw [hb26], by first | exact hq1 | decide, by first | exact hq2 | decide, by first | exact hq3 | decide, by first | exact hq4 | decide⟩, hA.keep _ ⟨rfl, rfl, rfl, rfl, trivial⟩, hM⟩
         · refine qm hA rfl rfl rfl (qh rfl rfl (fun w => by kernel_rfl)) (vk (Nu.below hok.num hM.bel) hok.len hb26) ?_
           rintro _ w31 ⟨rfl, hb30⟩
           replace hM := hM.call hb30
           refine ⟨_, rfl, ?_⟩
           intro a hA
           refine qa (v := .agg #[.bool false, .slice none 0 0, .slice none 0 0, .bool false, .slice none 0 0, .slice none 0 0]) hA rfl rfl rfl (xr rfl (fun w => by kernel_rfl)) ?_
           intro a hA
           refine qa hA rfl rfl rfl (qb rfl) ?_
           intro a hA
           refine qa (v := .pointer (some ⟨g2, 2, none⟩)) hA rfl rfl rfl (qi TrB_fld_30_2 rfl rfl) ?_
           intro a hA
           refine jb (us := [.int .i64 d.k, .int .i64 d.n, .bool false, .slice none 0 0, .slice none 0 0, .bool false, .slice none 0 0, .slice none 0 0, .string d.s, .slice d.ro d.rl.length d.rc, .slice d.lo ts.length d.lc]) (L' := (.obj g2 (.cells #[.int .i64 d.k, .int .i64 d.n, .bool false, .slice none 0 0, .slice none 0 0, .bool false, .slice none 0 0, .slice none 0 0, .string d.s, .slice d.ro d.rl.length d.rc, .slice d.lo ts.length d.lc] 30) :: [])) hA hM rfl rfl (zu rfl rfl rfl (by kernel_rfl) hM 0 rfl rfl rfl) 0 rfl rfl rfl ?_
           intro w32 hM
           refine qf ?_
           exact hJ6 _ _ ⟨false, d.n, false, none, 0, 0, none, 0, 0, false, none, 0, 0, none, 0, 0, d.s, d.ro, d.rl.length, d.rc, d.lo, ts.length, d.lc, ⟨by
             unfold jw
             repeat (first | rw [if_pos (by omega)] | rw [if_neg (by omega)])
             first | rfl | rw [hb26], by first | exact hq1 | decide, by first | exact hq2 | decide, by first | exact hq3 | decide, by first | exact hq4 | decide⟩, hA.keep _ ⟨rfl, rfl, rfl, rfl, trivial⟩, hM⟩
       · have hb25' := ne_of_beq_false hb25
         refine qa (v := .bool false) hA rfl rfl rfl (qg rfl rfl (fun w => (qx w).trans (by rw [hb25]))) ?_
         intro a hA
         refine qa hA rfl rfl rfl (qb rfl) ?_
         intro a hA
         refine qf ?_
         refine hK24 _ _ ?_
         refine wp_cond_false (hA.ev rfl) ?_
         refine wp_seq_k (fun K33 hK33 => ?_)
         refine wp_region_lit ?_
         rcases Bool.eq_false_or_eq_true ((d.k == 4)) with hb34 | hb34
         · have hb34' := eq_of_beq hb34
           refine qa (v := .bool true) hA rfl rfl rfl (qg rfl rfl (fun w => (qx w).trans (by rw [hb34]))) ?_
           intro a hA
           refine qa hA rfl rfl rfl (qb rfl) ?_
           intro a hA
           refine qf ?_
           refine hK33 _ _ ?_
           refine wp_cond_true (hA.ev rfl) ?_
           refine wp_region_lit ?_
           refine qa (v := .pointer (some ⟨g2, 1, none⟩)) hA rfl rfl rfl (qi TrB_fld_30_1 rfl rfl) ?_
           intro a hA
           refine qa hA rfl rfl rfl (zl hM TrB_is1_3 rfl 0 rfl rfl) ?_
           intro a hA
           rcases Bool.eq_false_or_eq_true (yg d.n) with hb35 | hb35
           · refine qm hA rfl rfl rfl (qh rfl rfl (fun w => by kernel_rfl)) ((hb35 ▸ isCh_any)) ?_
             rintro _ w37 ⟨rfl, hb36⟩
             replace hM := hM.call hb36
             refine ⟨_, rfl, ?_⟩
             intro a hA
             refine qa hA rfl rfl rfl (qb rfl) ?_
             intro a hA
             refine qa (v := .pointer (some ⟨g2, 1, none⟩)) hA rfl rfl rfl (qi TrB_fld_30_1 rfl rfl) ?_
             intro a hA
             refine jb (us := [.int .i64 d.k, .int .i64 0, .bool d.y.q.b1, .slice d.y.o1 d.y.q.t1.length d.y.c1, .slice d.y.o2 d.y.q.q1.length d.y.c2, .bool d.y.q.b2, .slice d.y.o3 d.y.q.t2.length d.y.c3, .slice d.y.o4 d.y.q.q2.length d.y.c4, .string d.s, .slice d.ro d.rl.length d.rc, .slice d.lo ts.length d.lc]) (L' := (.obj g2 (.cells #[.int .i64 d.k, .int .i64 0, .bool d.y.q.b1, .slice d.y.o1 d.y.q.t1.length d.y.c1, .slice d.y.o2 d.y.q.q1.length d.y.c2, .bool d.y.q.b2, .slice d.y.o3 d.y.q.t2.length d.y.c3, .slice d.y.o4 d.y.q.q2.length d.y.c4, .string d.s, .slice d.ro d.rl.length d.rc, .slice d.lo ts.length d.lc] 30) :: [])) hA hM rfl rfl (zu rfl rfl rfl (by kernel_rfl) hM 0 rfl rfl rfl) 0 rfl rfl rfl ?_
             intro w38 hM
             refine qf ?_
             exact hJ6 _ _ ⟨true, 0, d.y.q.b1, d.y.o1, d.y.q.t1.length, d.y.c1, d.y.o2, d.y.q.q1.length, d.y.c2, d.y.q.b2, d.y.o3, d.y.q.t2.length, d.y.c3, d.y.o4, d.y.q.q2.length, d.y.c4, d.s, d.ro, d.rl.length, d.rc, d.lo, ts.length, d.lc, ⟨by
               unfold jw
               repeat (first | rw [if_pos (by omega)] | rw [if_neg (by omega)])
               first | rfl | rw [hb35], by first | exact hq1 | decide, by first | exact hq2 | decide, by first | exact hq3 | decide, by first | exact hq4 | decide⟩, hA.keep _ ⟨rfl, rfl, rfl, rfl, trivial⟩, hM⟩
           · refine qm hA rfl rfl rfl (qh rfl rfl (fun w => by kernel_rfl)) ((hb35 ▸ isCh_any)) ?_
             rintro _ w40 ⟨rfl, hb39⟩
             replace hM := hM.call hb39
             refine ⟨_, rfl, ?_⟩
             intro a hA
             refine qa hA rfl rfl rfl (qb rfl) ?_
             intro a hA
             refine qa (v := .pointer (some ⟨g2, 1, none⟩)) hA rfl rfl rfl (qi TrB_fld_30_1 rfl rfl) ?_
             intro a hA
             refine jb (us := [.int .i64 d.k, .int .i64 0, .bool d.y.q.b1, .slice d.y.o1 d.y.q.t1.length d.y.c1, .slice d.y.o2 d.y.q.q1.length d.y.c2, .bool d.y.q.b2, .slice d.y.o3 d.y.q.t2.length d.y.c3, .slice d.y.o4 d.y.q.q2.length d.y.c4, .string d.s, .slice d.ro d.rl.length d.rc, .slice d.lo ts.length d.lc]) (L' := (.obj g2 (.cells #[.int .i64 d.k, .int .i64 0, .bool d.y.q.b1, .slice d.y.o1 d.y.q.t1.length d.y.c1, .slice d.y.o2 d.y.q.q1.length d.y.c2, .bool d.y.q.b2, .slice d.y.o3 d.y.q.t2.length d.y.c3, .slice d.y.o4 d.y.q.q2.length d.y.c4, .string d.s, .slice d.ro d.rl.length d.rc, .slice d.lo ts.length d.lc] 30) :: [])) hA hM rfl rfl (zu rfl rfl rfl (by kernel_rfl) hM 0 rfl rfl rfl) 0 rfl rfl rfl ?_
             intro w41 hM
             refine qf ?_
             exact hJ6 _ _ ⟨false, 0, d.y.q.b1, d.y.o1, d.y.q.t1.length, d.y.c1, d.y.o2, d.y.q.q1.length, d.y.c2, d.y.q.b2, d.y.o3, d.y.q.t2.length, d.y.c3, d.y.o4, d.y.q.q2.length, d.y.c4, d.s, d.ro, d.rl.length, d.rc, d.lo, ts.length, d.lc, ⟨by
               unfold jw
               repeat (first | rw [if_pos (by omega)] | rw [if_neg (by omega)])
               first | rfl | rw [hb35], by first | exact hq1 | decide, by first | exact hq2 | decide, by first | exact hq3 | decide, by first | exact hq4 | decide⟩, hA.keep _ ⟨rfl, rfl, rfl, rfl, trivial⟩, hM⟩
         · have hb34' := ne_of_beq_false hb34
           refine qa (v := .bool false) hA rfl rfl rfl (qg rfl rfl (fun w => (qx w).trans (by rw [hb34]))) ?_
           intro a hA
           refine qa hA rfl rfl rfl (qb rfl) ?_
           intro a hA
           refine qf ?_
           refine hK33 _ _ ?_
           refine wp_cond_false (hA.ev rfl) ?_
           refine wp_seq_k (fun K42 hK42 => ?_)
           refine wp_seq_k (fun K43 hK43 => ?_)
           refine wp_region_lit ?_
           rcases Bool.eq_false_or_eq_true ((d.k == 5)) with hb44 | hb44
           · have hb44' := eq_of_beq hb44
             refine qa (v := .bool true) hA rfl rfl rfl (qg rfl rfl (fun w => (qx w).trans (by rw [hb44]))) ?_
             intro a hA
             refine qa hA rfl rfl rfl (qb rfl) ?_
             intro a hA
             refine qf ?_
             refine hK43 _ _ ?_
             refine wp_cond_true (hA.ev rfl) ?_
             refine wp_skip ?_
             refine hK42 _ _ ?_
             refine wp_cond_true (hA.ev rfl) ?_
             refine wp_region_lit ?_
             refine qa (v := .pointer (some ⟨g2, 8, none⟩)) hA rfl rfl rfl (qi TrB_fld_30_3 rfl rfl) ?_
             intro a hA
             refine qa hA rfl rfl rfl (zl hM TrB_is1_9 rfl 0 rfl rfl) ?_
             intro a hA
             rcases Bool.eq_false_or_eq_true (okS d.s) with hb45 | hb45
             · refine qm hA rfl rfl rfl (qh rfl rfl (fun w => by kernel_rfl)) (yq hok.smax (hT.below hM.bel) hb45) ?_
               rintro _ w47 ⟨rfl, hb46⟩
               replace hM := hM.call hb46
               refine ⟨_, rfl, ?_⟩
               intro a hA
               refine qa hA rfl rfl rfl (qb rfl) ?_
               intro a hA
               refine qa (v := .pointer (some ⟨g2, 8, none⟩)) hA rfl rfl rfl (qi TrB_fld_30_3 rfl rfl) ?_
               intro a hA
               refine jb (us := [.int .i64 d.k, .int .i64 d.n, .bool d.y.q.b1, .slice d.y.o1 d.y.q.t1.length d.y.c1, .slice d.y.o2 d.y.q.q1.length d.y.c2, .bool d.y.q.b2, .slice d.y.o3 d.y.q.t2.length d.y.c3, .slice d.y.o4 d.y.q.q2.length d.y.c4, .string (⟨#[]⟩), .slice d.ro d.rl.length d.rc, .slice d.lo ts.length d.lc]) (L' := (.obj g2 (.cells #[.int .i64 d.k, .int .i64 d.n, .bool d.y.q.b1, .slice d.y.o1 d.y.q.t1.length d.y.c1, .slice d.y.o2 d.y.q.q1.length d.y.c2, .bool d.y.q.b2, .slice d.y.o3 d.y.q.t2.length d.y.c3, .slice d.y.o4 d.y.q.q2.length d.y.c4, .string (⟨#[]⟩), .slice d.ro d.rl.length d.rc, .slice d.lo ts.length d.lc] 30) :: [])) hA hM rfl rfl (zu rfl rfl rfl (by kernel_rfl) hM 0 rfl rfl rfl) 0 rfl rfl rfl ?_
               intro w48 hM
               refine qf ?_
               exact hJ6 _ _ ⟨true, d.n, d.y.q.b1, d.y.o1, d.y.q.t1.length, d.y.c1, d.y.o2, d.y.q.q1.length, d.y.c2, d.y.q.b2, d.y.o3, d.y.q.t2.length, d.y.c3, d.y.o4, d.y.q.q2.length, d.y.c4, ⟨#[]⟩, d.ro, d.rl.length, d.rc, d.lo, ts.length, d.lc, ⟨by
                 unfold jw
                 repeat (first | rw [if_pos (by omega)] | rw [if_neg (by omega)])
                 first | rfl | rw [hb45], by first | exact hq1 | decide, by first | exact hq2 | decide, by first | exact hq3 | decide, by first | exact hq4 | decide⟩, hA.keep _ ⟨rfl, rfl, rfl, rfl, trivial⟩, hM⟩
             · refine qm hA rfl rfl rfl (qh rfl rfl (fun w => by kernel_rfl)) (yq hok.smax (hT.below hM.bel) hb45) ?_
               rintro _ w50 ⟨rfl, hb49⟩
               replace hM := hM.call hb49
               refine ⟨_, rfl, ?_⟩
               intro a hA
               refine qa hA rfl rfl rfl (qb rfl) ?_
               intro a hA
               refine qa (v := .pointer (some ⟨g2, 8, none⟩)) hA rfl rfl rfl (qi TrB_fld_30_3 rfl rfl) ?_
               intro a hA
               refine jb (us := [.int .i64 d.k, .int .i64 d.n, .bool d.y.q.b1, .slice d.y.o1 d.y.q.t1.length d.y.c1, .slice d.y.o2 d.y.q.q1.length d.y.c2, .bool d.y.q.b2, .slice d.y.o3 d.y.q.t2.length d.y.c3, .slice d.y.o4 d.y.q.q2.length d.y.c4, .string (⟨#[]⟩), .slice d.ro d.rl.length d.rc, .slice d.lo ts.length d.lc]) (L' := (.obj g2 (.cells #[.int .i64 d.k, .int .i64 d.n, .bool d.y.q.b1, .slice d.y.o1 d.y.q.t1.length d.y.c1, .slice d.y.o2 d.y.q.q1.length d.y.c2, .bool d.y.q.b2, .slice d.y.o3 d.y.q.t2.length d.y.c3, .slice d.y.o4 d.y.q.q2.length d.y.c4, .string (⟨#[]⟩), .slice d.ro d.rl.length d.rc, .slice d.lo ts.length d.lc] 30) :: [])) hA hM rfl rfl (zu rfl rfl rfl (by kernel_rfl) hM 0 rfl rfl rfl) 0 rfl rfl rfl ?_
               intro w51 hM
               refine qf ?_
               exact hJ6 _ _ ⟨false, d.n, d.y.q.b1, d.y.o1, d.y.q.t1.length, d.y.c1, d.y.o2, d.y.q.q1.length, d.y.c2, d.y.q.b2, d.y.o3, d.y.q.t2.length, d.y.c3, d.y.o4, d.y.q.q2.length, d.y.c4, ⟨#[]⟩, d.ro, d.rl.length, d.rc, d.lo, ts.length, d.lc, ⟨by
                 unfold jw
                 repeat (first | rw [if_pos (by omega)] | rw [if_neg (by omega)])
                 first | rfl | rw [hb45], by first | exact hq1 | decide, by first | exact hq2 | decide, by first | exact hq3 | decide, by first | exact hq4 | decide⟩, hA.keep _ ⟨rfl, rfl, rfl, rfl, trivial⟩, hM⟩
           · have hb44' := ne_of_beq_false hb44
             refine qa (v := .bool false) hA rfl rfl rfl (qg rfl rfl (fun w => (qx w).trans (by rw [hb44]))) ?_
             intro a hA
             refine qa hA rfl rfl rfl (qb rfl) ?_
             intro a hA
             refine qf ?_
             refine hK43 _ _ ?_
             refine wp_cond_false (hA.ev rfl) ?_
             refine wp_seq_k (fun K52 hK52 => ?_)
             refine wp_region_lit ?_
             rcases Bool.eq_false_or_eq_true ((d.k == 6)) with hb53 | hb53
             · have hb53' := eq_of_beq hb53
               refine qa (v := .bool true) hA rfl rfl rfl (qg rfl rfl (fun w => (qx w).trans (by rw [hb53]))) ?_
               intro a hA
               refine qa hA rfl rfl rfl (qb rfl) ?_
               intro a hA
               refine qf ?_
               refine hK52 _ _ ?_
               refine wp_cond_true (hA.ev rfl) ?_
               refine wp_skip ?_
               refine hK42 _ _ ?_
               refine wp_cond_true (hA.ev rfl) ?_
               refine wp_region_lit ?_
               refine qa (v := .pointer (some ⟨g2, 8, none⟩)) hA rfl rfl rfl (qi TrB_fld_30_3 rfl rfl) ?_
               intro a hA
               refine qa hA rfl rfl rfl (zl hM TrB_is1_9 rfl 0 rfl rfl) ?_
               intro a hA
               rcases Bool.eq_false_or_eq_true (okS d.s) with hb54 | hb54
               · refine qm hA rfl rfl rfl (qh rfl rfl (fun w => by kernel_rfl)) (yq hok.smax (hT.below hM.bel) hb54) ?_
                 rintro _ w56 ⟨rfl, hb55⟩
                 replace hM := hM.call hb55
                 refine ⟨_, rfl, ?_⟩
                 intro a hA
                 refine qa hA rfl rfl rfl (qb rfl) ?_
                 intro a hA
                 refine qa (v := .pointer (some ⟨g2, 8, none⟩)) hA rfl rfl rfl (qi TrB_fld_30_3 rfl rfl) ?_
                 intro a hA
                 refine jb (us := [.int .i64 d.k, .int .i64 d.n, .bool d.y.q.b1, .slice d.y.o1 d.y.q.t1.length d.y.c1, .slice d.y.o2 d.y.q.q1.length d.y.c2, .bool d.y.q.b2, .slice d.y.o3 d.y.q.t2.length d.y.c3, .slice d.y.o4 d.y.q.q2.length d.y.c4, .string (⟨#[]⟩), .slice d.ro d.rl.length d.rc, .slice d.lo ts.length d.lc]) (L' := (.obj g2 (.cells #[.int .i64 d.k, .int .i64 d.n, .bool d.y.q.b1, .slice d.y.o1 d.y.q.t1.length d.y.c1, .slice d.y.o2 d.y.q.q1.length d.y.c2, .bool d.y.q.b2, .slice d.y.o3 d.y.q.t2.length d.y.c3, .slice d.y.o4 d.y.q.q2.length d.y.c4, .string (⟨#[]⟩), .slice d.ro d.rl.length d.rc, .slice d.lo ts.length d.lc] 30) :: [])) hA hM rfl rfl (zu rfl rfl rfl (by kernel_rfl) hM 0 rfl rfl rfl) 0 rfl rfl rfl ?_
                 intro w57 hM
                 refine qf ?_
                 exact hJ6 _ _ ⟨true, d.n, d.y.q.b1, d.y.o1, d.y.q.t1.length, d.y.c1, d.y.o2, d.y.q.q1.length, d.y.c2, d.y.q.b2, d.y.o3, d.y.q.t2.length, d.y.c3, d.y.o4, d.y.q.q2.length, d.y.c4, ⟨#[]⟩, d.ro, d.rl.length, d.rc, d.lo, ts.length, d.lc, ⟨by
                   unfold jw
                   repeat (first | rw [if_pos (by omega)] | rw [if_neg (by omega)])
                   first | rfl | rw [hb54], by first | exact hq1 | decide, by first | exact hq2 | decide, by first | exact hq3 | decide, by first | exact hq4 | decide⟩, hA.keep _ ⟨rfl, rfl, rfl, rfl, trivial⟩, hM⟩
               · refine qm hA rfl rfl rfl (qh rfl rfl (fun w => by kernel_rfl)) (yq hok.smax (hT.below hM.bel) hb54) ?_
                 rintro _ w59 ⟨rfl, hb58⟩
                 replace hM := hM.call hb58
                 refine ⟨_, rfl, ?_⟩
                 intro a hA
                 refine qa hA rfl rfl rfl (qb rfl) ?_
                 intro a hA
                 refine qa (v := .pointer (some ⟨g2, 8, none⟩)) hA rfl rfl rfl (qi TrB_fld_30_3 rfl rfl) ?_
                 intro a hA
                 refine jb (us := [.int .i64 d.k, .int .i64 d.n, .bool d.y.q.b1, .slice d.y.o1 d.y.q.t1.length d.y.c1, .slice d.y.o2 d.y.q.q1.length d.y.c2, .bool d.y.q.b2, .slice d.y.o3 d.y.q.t2.length d.y.c3, .slice d.y.o4 d.y.q.q2.length d.y.c4, .string (⟨#[]⟩), .slice d.ro d.rl.length d.rc, .slice d.lo ts.length d.lc]) (L' := (.obj g2 (.cells #[.int .i64 d.k, .int .i64 d.n, .bool d.y.q.b1, .slice d.y.o1 d.y.q.t1.length d.y.c1, .slice d.y.o2 d.y.q.q1.length d.y.c2, .bool d.y.q.b2, .slice d.y.o3 d.y.q.t2.length d.y.c3, .slice d.y.o4 d.y.q.q2.length d.y.c4, .string (⟨#[]⟩), .slice d.ro d.rl.length d.rc, .slice d.lo ts.length d.lc] 30) :: [])) hA hM rfl rfl (zu rfl rfl rfl (by kernel_rfl) hM 0 rfl rfl rfl) 0 rfl rfl rfl ?_
                 intro w60 hM
                 refine qf ?_
                 exact hJ6 _ _ ⟨false, d.n, d.y.q.b1, d.y.o1, d.y.q.t1.length, d.y.c1, d.y.o2, d.y.q.q1.length, d.y.c2, d.y.q.b2, d.y.o3, d.y.q.t2.length, d.y.c3, d.y.o4, d.y.q.q2.length, d.y.c4, ⟨#[]⟩, d.ro, d.rl.length, d.rc, d.lo, ts.length, d.lc, ⟨by
                   unfold jw
                   repeat (first | rw [if_pos (by omega)] | rw [if_neg (by omega)])
                   first | rfl | rw [hb54], by first | exact hq1 | decide, by first | exact hq2 | decide, by first | exact hq3 | decide, by first | exact hq4 | decide⟩, hA.keep _ ⟨rfl, rfl, rfl, rfl, trivial⟩, hM⟩
             · have hb53' := ne_of_beq_false hb53
               refine qa (v := .bool false) hA rfl rfl rfl (qg rfl rfl (fun w => (qx w).trans (by rw [hb53]))) ?_
               intro a hA
               refine qa hA rfl rfl rfl (qb rfl) ?_
               intro a hA
               refine qf ?_
               refine hK52 _ _ ?_
               refine wp_cond_false (hA.ev rfl) ?_
               refine wp_region_lit ?_
               rcases Bool.eq_false_or_eq_true ((d.k == 11)) with hb61 | hb61
               · have hb61' := eq_of_beq hb61
                 refine qa (v := .bool true) hA rfl rfl rfl (qg rfl rfl (fun w => (qx w).trans (by rw [hb61]))) ?_
                 intro a hA
                 refine qa hA rfl rfl rfl (qb rfl) ?_
                 intro a hA
                 refine qf ?_
                 refine hK42 _ _ ?_
                 refine wp_cond_true (hA.ev rfl) ?_
                 refine wp_region_lit ?_
                 refine qa (v := .pointer (some ⟨g2, 8, none⟩)) hA rfl rfl rfl (qi TrB_fld_30_3 rfl rfl) ?_
                 intro a hA
                 refine qa hA rfl rfl rfl (zl hM TrB_is1_9 rfl 0 rfl rfl) ?_
                 intro a hA
                 rcases Bool.eq_false_or_eq_true (okS d.s) with hb62 | hb62
                 · refine qm hA rfl rfl rfl (qh rfl rfl (fun w => by kernel_rfl)) (yq hok.smax (hT.below hM.bel) hb62) ?_
                   rintro _ w64 ⟨rfl, hb63⟩
                   replace hM := hM.call hb63
                   refine ⟨_, rfl, ?_⟩
                   intro a hA
                   refine qa hA rfl rfl rfl (qb rfl) ?_
                   intro a hA
                   refine qa (v := .pointer (some ⟨g2, 8, none⟩)) hA rfl rfl rfl (qi TrB_fld_30_3 rfl rfl) ?_
                   intro a hA
                   refine jb (us := [.int .i64 d.k, .int .i64 d.n, .bool d.y.q.b1, .slice d.y.o1 d.y.q.t1.length d.y.c1, .slice d.y.o2 d.y.q.q1.length d.y.c2, .bool d.y.q.b2, .slice d.y.o3 d.y.q.t2.length d.y.c3, .slice d.y.o4 d.y.q.q2.length d.y.c4, .string (⟨#[]⟩), .slice d.ro d.rl.length d.rc, .slice d.lo ts.length d.lc]) (L' := (.obj g2 (.cells #[.int .i64 d.k, .int .i64 d.n, .bool d.y.q.b1, .slice d.y.o1 d.y.q.t1.length d.y.c1, .slice d.y.o2 d.y.q.q1.length d.y.c2, .bool d.y.q.b2, .slice d.y.o3 d.y.q.t2.length d.y.c3, .slice d.y.o4 d.y.q.q2.length d.y.c4, .string (⟨#[]⟩), .slice d.ro d.rl.length d.rc, .slice d.lo ts.length d.lc] 30) :: [])) hA hM rfl rfl (zu rfl rfl rfl (by kernel_rfl) hM 0 rfl rfl rfl) 0 rfl rfl rfl ?_
                   intro w65 hM
                   refine qf ?_
                   exact hJ6 _ _ ⟨true, d.n, d.y.q.b1, d.y.o1, d.y.q.t1.length, d.y.c1, d.y.o2, d.y.q.q1.length, d.y.c2, d.y.q.b2, d.y.o3, d.y.q.t2.length, d.y.c3, d.y.o4, d.y.q.q2.length, d.y.c4, ⟨#[]⟩, d.ro, d.rl.length, d.rc, d.lo, ts.length, d.lc, ⟨by
                     unfold jw
                     repeat (first | rw [if_pos (by omega)] | rw [if_neg (by omega)])
                     first | rfl | rw [hb62], by first | exact hq1 | decide, by first | exact hq2 | decide, by first | exact hq3 | decide, by first | exact hq4 | decide⟩, hA.keep _ ⟨rfl, rfl, rfl, rfl, trivial⟩, hM⟩
                 · refine qm hA rfl rfl rfl (qh rfl rfl (fun w => by kernel_rfl)) (yq hok.smax (hT.below hM.bel) hb62) ?_
                   rintro _ w67 ⟨rfl, hb66⟩
                   replace hM := hM.call hb66
                   refine ⟨_, rfl, ?_⟩
                   intro a hA
                   refine qa hA rfl rfl rfl (qb rfl) ?_
                   intro a hA
                   refine qa (v := .pointer (some ⟨g2, 8, none⟩)) hA rfl rfl rfl (qi TrB_fld_30_3 rfl rfl) ?_
                   intro a hA
                   refine jb (us := [.int .i64 d.k, .int .i64 d.n, .bool d.y.q.b1, .slice d.y.o1 d.y.q.t1.length d.y.c1, .slice d.y.o2 d.y.q.q1.length d.y.c2, .bool d.y.q.b2, .slice d.y.o3 d.y.q.t2.length d.y.c3, .slice d.y.o4 d.y.q.q2.length d.y.c4, .string (⟨#[]⟩), .slice d.ro d.rl.length d.rc, .slice d.lo ts.length d.lc]) (L' := (.obj g2 (.cells #[.int .i64 d.k, .int .i64 d.n, .bool d.y.q.b1, .slice d.y.o1 d.y.q.t1.length d.y.c1, .slice d.y.o2 d.y.q.q1.length d.y.c2, .bool d.y.q.b2, .slice d.y.o3 d.y.q.t2.length d.y.c3, .slice d.y.o4 d.y.q.q2.length d.y.c4, .string (⟨#[]⟩), .slice d.ro d.rl.length d.rc, .slice d.lo ts.length d.lc] 30) :: [])) hA hM rfl rfl (zu rfl rfl rfl (by kernel_rfl) hM 0 rfl rfl rfl) 0 rfl rfl rfl ?_
                   intro w68 hM
                   refine qf ?_
                   exact hJ6 _ _ ⟨false, d.n, d.y.q.b1, d.y.o1, d.y.q.t1.length, d.y.c1, d.y.o2, d.y.q.q1.length, d.y.c2, d.y.q.b2, d.y.o3, d.y.q.t2.length, d.y.c3, d.y.o4, d.y.q.q2.length, d.y.c4, ⟨#[]⟩, d.ro, d.rl.length, d.rc, d.lo, ts.length, d.lc, ⟨by
                     unfold jw
                     repeat (first | rw [if_pos (by omega)] | rw [if_neg (by omega)])
                     first | rfl | rw [hb62], by first | exact hq1 | decide, by first | exact hq2 | decide, by first | exact hq3 | decide, by first | exact hq4 | decide⟩, hA.keep _ ⟨rfl, rfl, rfl, rfl, trivial⟩, hM⟩
               · have hb61' := ne_of_beq_false hb61
                 refine qa (v := .bool false) hA rfl rfl rfl (qg rfl rfl (fun w => (qx w).trans (by rw [hb61]))) ?_
                 intro a hA
                 refine qa hA rfl rfl rfl (qb rfl) ?_
                 intro a hA
                 refine qf ?_
                 refine hK42 _ _ ?_
                 refine wp_cond_false (hA.ev rfl) ?_
                 refine wp_seq_k (fun K69 hK69 => ?_)
                 refine wp_region_lit ?_
                 rcases Bool.eq_false_or_eq_true ((d.k == 7)) with hb70 | hb70
                 · have hb70' := eq_of_beq hb70
                   refine qa (v := .bool true) hA rfl rfl rfl (qg rfl rfl (fun w => (qx w).trans (by rw [hb70]))) ?_
                   intro a hA
                   refine qa hA rfl rfl rfl (qb rfl) ?_
                   intro a hA
                   refine qf ?_
                   refine hK69 _ _ ?_
                   refine wp_cond_true (hA.ev rfl) ?_
                   refine wp_region_lit ?_
                   refine qa (v := .pointer (some ⟨g2, 9, none⟩)) hA rfl rfl rfl (qi TrB_fld_30_4 rfl rfl) ?_
                   intro a hA
                   refine jb (us := [.int .i64 d.k, .int .i64 d.n, .bool d.y.q.b1, .slice d.y.o1 d.y.q.t1.length d.y.c1, .slice d.y.o2 d.y.q.q1.length d.y.c2, .bool d.y.q.b2, .slice d.y.o3 d.y.q.t2.length d.y.c3, .slice d.y.o4 d.y.q.q2.length d.y.c4, .string d.s, .slice none 0 0, .slice d.lo ts.length d.lc]) (L' := (.obj g2 (.cells #[.int .i64 d.k, .int .i64 d.n, .bool d.y.q.b1, .slice d.y.o1 d.y.q.t1.length d.y.c1, .slice d.y.o2 d.y.q.q1.length d.y.c2, .bool d.y.q.b2, .slice d.y.o3 d.y.q.t2.length d.y.c3, .slice d.y.o4 d.y.q.q2.length d.y.c4, .string d.s, .slice none 0 0, .slice d.lo ts.length d.lc] 30) :: [])) hA hM rfl rfl (zu rfl rfl rfl (by kernel_rfl) hM 0 rfl rfl rfl) 0 rfl rfl rfl ?_
                   intro w71 hM
                   refine qf ?_
                   exact hJ6 _ _ ⟨true, d.n, d.y.q.b1, d.y.o1, d.y.q.t1.length, d.y.c1, d.y.o2, d.y.q.q1.length, d.y.c2, d.y.q.b2, d.y.o3, d.y.q.t2.length, d.y.c3, d.y.o4, d.y.q.q2.length, d.y.c4, d.s, none, 0, 0, d.lo, ts.length, d.lc, ⟨by
                     unfold jw
                     repeat (first | rw [if_pos (by omega)] | rw [if_neg (by omega)])
                     first | rfl, by first | exact hq1 | decide, by first | exact hq2 | decide, by first | exact hq3 | decide, by first | exact hq4 | decide⟩, hA.keep _ ⟨rfl, rfl, rfl, rfl, trivial⟩, hM⟩
                 · have hb70' := ne_of_beq_false hb70
                   refine qa (v := .bool false) hA rfl rfl rfl (qg rfl rfl (fun w => (qx w).trans (by rw [hb70]))) ?_
                   intro a hA
                   refine qa hA rfl rfl rfl (qb rfl) ?_
                   intro a hA
                   refine qf ?_
                   refine hK69 _ _ ?_
                   refine wp_cond_false (hA.ev rfl) ?_
                   refine wp_seq_k (fun K72 hK72 => ?_)
                   refine wp_region_lit ?_
                   rcases Bool.eq_false_or_eq_true ((d.k == 8)) with hb73 | hb73
                   · have hb73' := eq_of_beq hb73
                     refine qa (v := .bool true) hA rfl rfl rfl (qg rfl rfl (fun w => (qx w).trans (by rw [hb73]))) ?_
                     intro a hA
                     refine qa hA rfl rfl rfl (qb rfl) ?_
                     intro a hA
                     refine qf ?_
                     refine hK72 _ _ ?_
                     refine wp_cond_true (hA.ev rfl) ?_
                     refine wp_region_lit ?_
                     refine qa (v := .pointer (some ⟨g2, 10, none⟩)) hA rfl rfl rfl (qi TrB_fld_30_5 rfl rfl) ?_
                     intro a hA
                     refine qa hA rfl rfl rfl (zl hM TrB_is1_28 rfl 0 rfl rfl) ?_
                     intro a hA
                     refine qa (v := .int .i64 (((ts.length : Nat) : Int))) hA rfl rfl rfl (zb Tryz.underlying28 rfl) ?_
                     intro a hA
                     rcases Bool.eq_false_or_eq_true ((((ts.length : Nat) : Int) == 2)) with hb74 | hb74
                     · have hb74' := eq_of_beq hb74
                       refine qa (v := .bool true) hA rfl rfl rfl (qg rfl rfl (fun w => (qx w).trans (by rw [hb74]))) ?_
                       intro a hA
                       refine qa hA rfl rfl rfl (qb rfl) ?_
                       intro a hA
                       refine qa (v := .pointer (some ⟨g2, 10, none⟩)) hA rfl rfl rfl (qi TrB_fld_30_5 rfl rfl) ?_
                       intro a hA
                       refine jb (us := [.int .i64 d.k, .int .i64 d.n, .bool d.y.q.b1, .slice d.y.o1 d.y.q.t1.length d.y.c1, .slice d.y.o2 d.y.q.q1.length d.y.c2, .bool d.y.q.b2, .slice d.y.o3 d.y.q.t2.length d.y.c3, .slice d.y.o4 d.y.q.q2.length d.y.c4, .string d.s, .slice d.ro d.rl.length d.rc, .slice none 0 0]) (L' := (.obj g2 (.cells #[.int .i64 d.k, .int .i64 d.n, .bool d.y.q.b1, .slice d.y.o1 d.y.q.t1.length d.y.c1, .slice d.y.o2 d.y.q.q1.length d.y.c2, .bool d.y.q.b2, .slice d.y.o3 d.y.q.t2.length d.y.c3, .slice d.y.o4 d.y.q.q2.length d.y.c4, .string d.s, .slice d.ro d.rl.length d.rc, .slice none 0 0] 30) :: [])) hA hM rfl rfl (zu rfl rfl rfl (by kernel_rfl) hM 0 rfl rfl rfl) 0 rfl rfl rfl ?_
                       intro w75 hM
                       refine qf ?_
                       exact hJ6 _ _ ⟨true, d.n, d.y.q.b1, d.y.o1, d.y.q.t1.length, d.y.c1, d.y.o2, d.y.q.q1.length, d.y.c2, d.y.q.b2, d.y.o3, d.y.q.t2.length, d.y.c3, d.y.o4, d.y.q.q2.length, d.y.c4, d.s, d.ro, d.rl.length, d.rc, none, 0, 0, ⟨by
                         unfold jw
                         repeat (first | rw [if_pos (by omega)] | rw [if_neg (by omega)])
                         first | rfl | (rw [decide_eq_true (show (ts.length = 2) by omega)]), by first | exact hq1 | decide, by first | exact hq2 | decide, by first | exact hq3 | decide, by first | exact hq4 | decide⟩, hA.keep _ ⟨rfl, rfl, rfl, rfl, trivial⟩, hM⟩
                     · have hb74' := ne_of_beq_false hb74
                       refine qa (v := .bool false) hA rfl rfl rfl (qg rfl rfl (fun w => (qx w).trans (by rw [hb74]))) ?_
                       intro a hA
                       refine qa hA rfl rfl rfl (qb rfl) ?_
                       intro a hA
                       refine qa (v := .pointer (some ⟨g2, 10, none⟩)) hA rfl rfl rfl (qi TrB_fld_30_5 rfl rfl) ?_
                       intro a hA
                       refine jb (us := [.int .i64 d.k, .int .i64 d.n, .bool d.y.q.b1, .slice d.y.o1 d.y.q.t1.length d.y.c1, .slice d.y.o2 d.y.q.q1.length d.y.c2, .bool d.y.q.b2, .slice d.y.o3 d.y.q.t2.length d.y.c3, .slice d.y.o4 d.y.q.q2.length d.y.c4, .string d.s, .slice d.ro d.rl.length d.rc, .slice none 0 0]) (L' := (.obj g2 (.cells #[.int .i64 d.k, .int .i64 d.n, .bool d.y.q.b1, .slice d.y.o1 d.y.q.t1.length d.y.c1, .slice d.y.o2 d.y.q.q1.length d.y.c2, .bool d.y.q.b2, .slice d.y.o3 d.y.q.t2.length d.y.c3, .slice d.y.o4 d.y.q.q2.length d.y.c4, .string d.s, .slice d.ro d.rl.length d.rc, .slice none 0 0] 30) :: [])) hA hM rfl rfl (zu rfl rfl rfl (by kernel_rfl) hM 0 rfl rfl rfl) 0 rfl rfl rfl ?_
                       intro w76 hM
                       refine qf ?_
                       exact hJ6 _ _ ⟨false, d.n, d.y.q.b1, d.y.o1, d.y.q.t1.length, d.y.c1, d.y.o2, d.y.q.q1.length, d.y.c2, d.y.q.b2, d.y.o3, d.y.q.t2.length, d.y.c3, d.y.o4, d.y.q.q2.length, d.y.c4, d.s, d.ro, d.rl.length, d.rc, none, 0, 0, ⟨by
                         unfold jw
                         repeat (first | rw [if_pos (by omega)] | rw [if_neg (by omega)])
                         first | rfl | (rw [decide_eq_false (show ¬ (ts.length = 2) by omega)]), by first | exact hq1 | decide, by first | exact hq2 | decide, by first | exact hq3 | decide, by first | exact hq4 | decide⟩, hA.keep _ ⟨rfl, rfl, rfl, rfl, trivial⟩, hM⟩
                   · have hb73' := ne_of_beq_false hb73
                     refine qa (v := .bool false) hA rfl rfl rfl (qg rfl rfl (fun w => (qx w).trans (by rw [hb73]))) ?_
                     intro a hA
                     refine qa hA rfl rfl rfl (qb rfl) ?_
                     intro a hA
                     refine qf ?_
                     refine hK72 _ _ ?_
                     refine wp_cond_false (hA.ev rfl) ?_
                     refine wp_seq_k (fun K77 hK77 => ?_)
                     refine wp_region_lit ?_
                     rcases Bool.eq_false_or_eq_true ((d.k == 9)) with hb78 | hb78
                     · have hb78' := eq_of_beq hb78
                       refine qa (v := .bool true) hA rfl rfl rfl (qg rfl rfl (fun w => (qx w).trans (by rw [hb78]))) ?_
                       intro a hA
                       refine qa hA rfl rfl rfl (qb rfl) ?_
                       intro a hA
                       refine qf ?_
                       refine hK77 _ _ ?_
                       refine wp_cond_true (hA.ev rfl) ?_
                       refine wp_region_lit ?_
                       refine qa (v := .pointer (some ⟨g2, 10, none⟩)) hA rfl rfl rfl (qi TrB_fld_30_5 rfl rfl) ?_
                       intro a hA
                       refine jb (us := [.int .i64 d.k, .int .i64 d.n, .bool d.y.q.b1, .slice d.y.o1 d.y.q.t1.length d.y.c1, .slice d.y.o2 d.y.q.q1.length d.y.c2, .bool d.y.q.b2, .slice d.y.o3 d.y.q.t2.length d.y.c3, .slice d.y.o4 d.y.q.q2.length d.y.c4, .string d.s, .slice d.ro d.rl.length d.rc, .slice none 0 0]) (L' := (.obj g2 (.cells #[.int .i64 d.k, .int .i64 d.n, .bool d.y.q.b1, .slice d.y.o1 d.y.q.t1.length d.y.c1, .slice d.y.o2 d.y.q.q1.length d.y.c2, .bool d.y.q.b2, .slice d.y.o3 d.y.q.t2.length d.y.c3, .slice d.y.o4 d.y.q.q2.length d.y.c4, .string d.s, .slice d.ro d.rl.length d.rc, .slice none 0 0] 30) :: [])) hA hM rfl rfl (zu rfl rfl rfl (by kernel_rfl) hM 0 rfl rfl rfl) 0 rfl rfl rfl ?_
                       intro w79 hM
                       refine qf ?_
                       exact hJ6 _ _ ⟨true, d.n, d.y.q.b1, d.y.o1, d.y.q.t1.length, d.y.c1, d.y.o2, d.y.q.q1.length, d.y.c2, d.y.q.b2, d.y.o3, d.y.q.t2.length, d.y.c3, d.y.o4, d.y.q.q2.length, d.y.c4, d.s, d.ro, d.rl.length, d.rc, none, 0, 0, ⟨by
                         unfold jw
                         repeat (first | rw [if_pos (by omega)] | rw [if_neg (by omega)])
                         first | rfl, by first | exact hq1 | decide, by first | exact hq2 | decide, by first | exact hq3 | decide, by first | exact hq4 | decide⟩, hA.keep _ ⟨rfl, rfl, rfl, rfl, trivial⟩, hM⟩
                     · have hb78' := ne_of_beq_false hb78
                       refine qa (v := .bool false) hA rfl rfl rfl (qg rfl rfl (fun w => (qx w).trans (by rw [hb78]))) ?_
                       intro a hA
                       refine qa hA rfl rfl rfl (qb rfl) ?_
                       intro a hA
                       refine qf ?_
                       refine hK77 _ _ ?_
                       refine wp_cond_false (hA.ev rfl) ?_
                       refine wp_region_lit ?_
                       refine qa hA rfl rfl rfl (qb rfl) ?_
                       intro a hA
                       refine qf ?_
                       exact hJ6 _ _ ⟨false, d.n, d.y.q.b1, d.y.o1, d.y.q.t1.length, d.y.c1, d.y.o2, d.y.q.q1.length, d.y.c2, d.y.q.b2, d.y.o3, d.y.q.t2.length, d.y.c3, d.y.o4, d.y.q.q2.length, d.y.c4, d.s, d.ro, d.rl.length, d.rc, d.lo, ts.length, d.lc, ⟨by
                         unfold jw
                         repeat (first | rw [if_pos (by omega)] | rw [if_neg (by omega)])
                         first | rfl, by first | exact hq1 | decide, by first | exact hq2 | decide, by first | exact hq3 | decide, by first | exact hq4 | decide⟩, hA.keep _ ⟨rfl, rfl, rfl, rfl, trivial⟩, hM⟩
end Go.Proofs.YtoopkbedjbnhhaaGreatDoor.G
namespace Go.Proofs.YtoopkbedjbnhhaaGreatDoor.G
open Go.RowKit
set_option maxRecDepth 100000
theorem TrC_is1_28 : Is1 Tryz.prog 28 := ⟨⟨_, Tryz.underlying28, rfl⟩, by kernel_rfl⟩
theorem TrC_fld_30_5 : FieldAt Tryz.prog 30 5 10 := ⟨_, _, Tryz.underlying30, rfl, rfl, by kernel_rfl⟩
theorem TrC_isS_30 : IsS Tryz.prog 30 11 := ⟨⟨_, Tryz.underlying30⟩, by kernel_rfl⟩
theorem Mg.here {w0 w : World} {L : List Ck} (h : Mg w0 w L) (k : Nat) {g : Nat} {cs : List Value} {t : TypeId} (hk : L[k]? = some (.obj g (.cells cs.toArray t))) : Here w g 0 cs := ⟨(Array.getElem?_eq_some_iff.1 (h.obj k hk)).1, fun j v hj => by rw [Nat.zero_add]; exact h.cell k hk j hj⟩
def Through (t : Dt) : Prop := ∀ {w : World}, t.rd w → Tabs8 w → Calls Tryz.prog 45 #[.agg t.cells.toArray] w fun e w' => e = .returned (.bool (xl zp t.tr)) ∧ Below w.heap.size w w'
theorem qge : ∀ t : Dt, Through t := Dt.indT fun d ts ih => by
 intro w hrd hT
 have hok := (Dt.rd_iff.1 hrd)
 have hlen : ts.length ≤ 9223372036854775807 := Nat.le_trans hok.2.1 hok.2.2.1
 have hM : Mg w w ([]) := Mg.start w
 refine qz (l := [(0, .agg (d.cells ts.length).toArray)]) Tryz.func45 rfl Tryz.ntmps45 rfl rfl ?_
 intro Q hret hnorm hP a hA
 refine wp_seq_k (fun K1 hK1 => ?_)
 refine wp_region_lit ?_
 refine jk (vs := [.int .i64 d.k, .int .i64 d.n, .bool d.y.q.b1, .slice d.y.o1 d.y.q.t1.length d.y.c1, .slice d.y.o2 d.y.q.q1.length d.y.c2, .bool d.y.q.b2, .slice d.y.o3 d.y.q.t2.length d.y.c3, .slice d.y.o4 d.y.q.q2.length d.y.c4, .string d.s, .slice d.ro d.rl.length d.rc, .slice d.lo ts.length d.lc]) (t := 30) hA hM rfl rfl rfl (fun g => .pointer (some ⟨g, 0, none⟩)) (zg rfl rfl) (by decide) ?_
 intro g2 w3 hM a hA
 refine qa hA rfl rfl rfl (qb rfl) ?_
 intro a hA
 refine qf ?_
 refine hK1 _ _ ?_
 refine wp_seq_k (fun K4 hK4 => ?_)
 refine wp_seq_k (fun K5 hK5 => ?_)
 refine wp_region_lit ?_
 refine qa hA rfl rfl rfl (ja hM TrC_isS_30 rfl 0 rfl (cs := [.int .i64 d.k, .int .i64 d.n, .bool d.y.q.b1, .slice d.y.o1 d.y.q.t1.length d.y.c1, .slice d.y.o2 d.y.q.q1.length d.y.c2, .bool d.y.q.b2, .slice d.y.o3 d.y.q.t2.length d.y.c3, .slice d.y.o4 d.y.q.q2.length d.y.c4, .string d.s, .slice d.ro d.rl.length d.rc, .slice d.lo ts.length d.lc]) rfl rfl) ?_
 intro a hA
 rcases Bool.eq_false_or_eq_true (jw d.k d.n d.y.q d.s d.rl.length ts.length) with hb6 | hb6
 · refine qm hA rfl rfl rfl (qh rfl rfl (fun w => by kernel_rfl)) ((hb6 ▸ qkg (ts := ts) (hok.1.below hM.bel) (hT.below hM.bel))) ?_
   rintro _ w8 ⟨rfl, hb7⟩
   replace hM := hM.call hb7
   refine ⟨_, rfl, ?_⟩
   intro a hA
   refine qa (v := .bool false) hA rfl rfl rfl (qp rfl qt) ?_
   intro a hA
   refine qf ?_
   refine hK5 _ _ ?_
   refine wp_cond_false (hA.ev rfl) ?_
   refine wp_skip ?_
   refine hK4 _ _ ?_
   refine wp_seq_k (fun K9 hK9 => ?_)
   refine wp_seq_k (fun K10 hK10 => ?_)
   refine wp_region_lit ?_
   refine qa (v := .pointer (some ⟨g2, 10, none⟩)) hA rfl rfl rfl (qi TrC_fld_30_5 rfl rfl) ?_
   intro a hA
   refine qa hA rfl rfl rfl (zl hM TrC_is1_28 rfl 0 rfl rfl) ?_
   intro a hA
   refine qa (v := .int .i64 (((ts.length : Nat) : Int))) hA rfl rfl rfl (zb Tryz.underlying28 rfl) ?_
   intro a hA
   refine qa hA rfl rfl rfl (qe rfl) ?_
   intro a hA
   refine qf ?_
   refine hK10 _ _ ?_
   refine wp_block ?_
   refine jd (fun m_ a w1 => ∃ (i : Nat), m_ = 1 + (ts.length - i) ∧ (i ≤ ts.length ∧ qcg zp ((ts.map Dt.tr).drop 0) = qcg zp ((ts.map Dt.tr).drop i)) ∧ Sl a 19 [(0, .agg (d.cells ts.length).toArray), (1, .pointer (some ⟨g2, 0, none⟩)), (5, .agg (d.cells ts.length).toArray), (6, .bool true), (7, .bool false), (8, .pointer (some ⟨g2, 10, none⟩)), (9, .slice d.lo ts.length d.lc), (10, .int .i64 (((ts.length : Nat) : Int))), (11, .int .i64 (((i : Nat) : Int)))] ∧ Mg w w1 (.obj g2 (.cells (d.cells ts.length).toArray 30) :: [])) _ ⟨0, rfl, ⟨Nat.zero_le _, rfl⟩, hA.keep _ (by repeat' constructor), hM⟩ ?_
   clear hM hA
   rintro m_ a w11 ⟨i, rfl, hinv13, hA, hM⟩ K12 hK12
   obtain ⟨hi0, hin9⟩ := hinv13
   refine wp_seq_k (fun K14 hK14 => ?_)
   refine wp_region_lit ?_
   rcases Bool.eq_false_or_eq_true (decide (((i : Nat) : Int) < ((ts.length : Nat) : Int))) with hb15 | hb15
   · have hb15' := of_decide_eq_true hb15
     refine qa (v := .bool true) hA rfl rfl rfl (qg rfl rfl (fun w => (zk w).trans (by rw [hb15]))) ?_
     intro a hA
     refine qf ?_
     refine hK14 _ _ ?_
     refine wp_seq_k (fun K16 hK16 => ?_)
     refine wp_cond_true (hA.ev rfl) ?_
     refine wp_skip ?_
     refine hK16 _ _ ?_
     refine wp_seq_k (fun K17 hK17 => ?_)
     refine wp_block ?_
     refine wp_seq_k (fun K18 hK18 => ?_)
     obtain ⟨t1, b1, o1, hi1, hm1, hr1, hl1, hH1⟩ := kid hrd (i := i) (by omega)
     refine wp_region_lit ?_
     refine qa (v := .pointer (some ⟨b1, o1 + i * 11, none⟩)) hA rfl rfl rfl (zh (k := i) Tryz.underlying28 (by kernel_rfl) rfl rfl rfl hl1 (by omega)) ?_
     intro a hA
     refine qa hA rfl rfl rfl (jg hM hH1 TrC_isS_30 rfl rfl) ?_
     intro a hA
     refine jk (vs := [.int .i64 0, .int .i64 0, .bool false, .slice none 0 0, .slice none 0 0, .bool false, .slice none 0 0, .slice none 0 0, .string (⟨#[]⟩), .slice none 0 0, .slice none 0 0]) (t := 30) hA hM rfl rfl rfl (fun g => .pointer (some ⟨g, 0, none⟩)) (zx (z := .agg #[.int .i64 0, .int .i64 0, .bool false, .slice none 0 0, .slice none 0 0, .bool false, .slice none 0 0, .slice none 0 0, .string (⟨#[]⟩), .slice none 0 0, .slice none 0 0]) (by kernel_rfl) rfl) (by decide) ?_
     intro g19 w20 hM a hA
     refine jb (us := [.int .i64 t1.d.k, .int .i64 t1.d.n, .bool t1.d.y.q.b1, .slice t1.d.y.o1 t1.d.y.q.t1.length t1.d.y.c1, .slice t1.d.y.o2 t1.d.y.q.q1.length t1.d.y.c2, .bool t1.d.y.q.b2, .slice t1.d.y.o3 t1.d.y.q.t2.length t1.d.y.c3, .slice t1.d.y.o4 t1.d.y.q.q2.length t1.d.y.c4, .string t1.d.s, .slice t1.d.ro t1.d.rl.length t1.d.rc, .slice t1.d.lo t1.ts.length t1.d.lc]) (L' := (.obj g19 (.cells (t1.d.cells t1.ts.length).toArray 30) :: .obj g2 (.cells (d.cells ts.length).toArray 30) :: [])) hA hM rfl rfl (zu rfl rfl rfl (by kernel_rfl) hM 0 rfl rfl rfl) 0 rfl rfl rfl ?_
     intro w21 hM
     refine qf ?_
     refine hK18 _ _ ?_
     refine wp_seq_k (fun K22 hK22 => ?_)
     refine wp_region_lit ?_
     refine qa hA rfl rfl rfl (ja hM TrC_isS_30 rfl 0 rfl (cs := [.int .i64 t1.d.k, .int .i64 t1.d.n, .bool t1.d.y.q.b1, .slice t1.d.y.o1 t1.d.y.q.t1.length t1.d.y.c1, .slice t1.d.y.o2 t1.d.y.q.q1.length t1.d.y.c2, .bool t1.d.y.q.b2, .slice t1.d.y.o3 t1.d.y.q.t2.length t1.d.y.c3, .slice t1.d.y.o4 t1.d.y.q.q2.length t1.d.y.c4, .string t1.d.s, .slice t1.d.ro t1.d.rl.length t1.d.rc, .slice t1.d.lo t1.ts.length t1.d.lc]) rfl rfl) ?_
     intro a hA
     rcases Bool.eq_false_or_eq_true (xl zp t1.tr) with hb23 | hb23
     · refine qm hA rfl rfl rfl (qh rfl rfl (fun w => by kernel_rfl)) ((hb23 ▸ ih t1 hm1 (Dt.keep hM.bel _ hr1) (hT.below hM.bel))) ?_
       rintro _ w25 ⟨rfl, hb24⟩
       replace hM := hM.call hb24
       refine ⟨_, rfl, ?_⟩
       intro a hA
       refine qa (v := .bool false) hA rfl rfl rfl (qp rfl qt) ?_
       intro a hA
       refine qf ?_
       refine hK22 _ _ ?_
       refine wp_cond_false (hA.ev rfl) ?_
       refine wp_skip ?_
       refine hK17 _ _ ?_
       refine wp_region_lit ?_
       refine qa (v := .int .i64 (((i + 1 : Nat) : Int))) hA rfl rfl rfl (qg rfl rfl (fun w => (kr (ye (by omega) (by omega)) w).trans (by rw [show (((i : Nat) : Int) + 1 : Int) = ((i + 1 : Nat) : Int) from by omega]))) ?_
       intro a hA
       refine qa hA rfl rfl rfl (qe rfl) ?_
       intro a hA
       refine qf ?_
       replace hM : Mg w w25 (.obj g2 (.cells (d.cells ts.length).toArray 30) :: []) := by
         have h9 := hM.sub (cN (cC (.refl _)))
         exact h9
       refine hK12 _ _ _ (by omega) ⟨i + 1, rfl, ⟨by omega, by rw [hin9, allL_go hi1, hb23, Bool.true_and]⟩, hA.keep _ (by repeat' constructor), hM⟩
     · refine qm hA rfl rfl rfl (qh rfl rfl (fun w => by kernel_rfl)) ((hb23 ▸ ih t1 hm1 (Dt.keep hM.bel _ hr1) (hT.below hM.bel))) ?_
       rintro _ w27 ⟨rfl, hb26⟩
       replace hM := hM.call hb26
       refine ⟨_, rfl, ?_⟩
       intro a hA
       refine qa (v := .bool true) hA rfl rfl rfl (qp rfl qt) ?_
       intro a hA
       refine qf ?_
       refine hK22 _ _ ?_
       refine wp_cond_true (hA.ev rfl) ?_
       refine wp_seq_k (fun K28 hK28 => ?_)
       refine wp_region_lit ?_
       refine qa hA rfl rfl rfl (qb rfl) ?_
       intro a hA
       refine qf ?_
       refine hK28 _ _ ?_
       refine wp_ret ?_
       refine hret _ _ ?_
       refine za (v := .bool false) hA rfl (.cons (qk rfl) .nil) rfl ?_
       rw [show xl zp (Dt.mk d ts).tr = false from by rw [allT_mk, kv, hb6, Bool.true_and, hin9, allL_go hi1, hb23, Bool.false_and]]
       exact ⟨rfl, hM.bel⟩
   · have hb15' := of_decide_eq_false hb15
     refine qa (v := .bool false) hA rfl rfl rfl (qg rfl rfl (fun w => (zk w).trans (by rw [hb15]))) ?_
     intro a hA
     refine qf ?_
     refine hK14 _ _ ?_
     refine wp_seq_k (fun K29 hK29 => ?_)
     refine wp_cond_false (hA.ev rfl) ?_
     refine wp_exit ?_
     refine hK9 _ _ ?_
     refine wp_seq_k (fun K30 hK30 => ?_)
     refine wp_region_lit ?_
     refine qa hA rfl rfl rfl (qb rfl) ?_
     intro a hA
     refine qf ?_
     refine hK30 _ _ ?_
     refine wp_ret ?_
     refine hret _ _ ?_
     refine za (v := .bool true) hA rfl (.cons (qk rfl) .nil) rfl ?_
     rw [show xl zp (Dt.mk d ts).tr = true from by rw [allT_mk, kv, hb6, Bool.true_and, hin9, qfc (by omega), qcg]]
     exact ⟨rfl, hM.bel⟩
 · refine qm hA rfl rfl rfl (qh rfl rfl (fun w => by kernel_rfl)) ((hb6 ▸ qkg (ts := ts) (hok.1.below hM.bel) (hT.below hM.bel))) ?_
   rintro _ w32 ⟨rfl, hb31⟩
   replace hM := hM.call hb31
   refine ⟨_, rfl, ?_⟩
   intro a hA
   refine qa (v := .bool true) hA rfl rfl rfl (qp rfl qt) ?_
   intro a hA
   refine qf ?_
   refine hK5 _ _ ?_
   refine wp_cond_true (hA.ev rfl) ?_
   refine wp_seq_k (fun K33 hK33 => ?_)
   refine wp_region_lit ?_
   refine qa hA rfl rfl rfl (qb rfl) ?_
   intro a hA
   refine qf ?_
   refine hK33 _ _ ?_
   refine wp_ret ?_
   refine hret _ _ ?_
   refine za (v := .bool false) hA rfl (.cons (qk rfl) .nil) rfl ?_
   rw [show xl zp (Dt.mk d ts).tr = false from by rw [allT_mk, kv, hb6, Bool.false_and]]
   exact ⟨rfl, hM.bel⟩
theorem fits_any {w : World} {d : Nd} {ts : List Dt} (hrd : (Dt.mk d ts).rd w) : Calls Tryz.prog 44 #[.agg (d.cells ts.length).toArray] w fun e w' => e = .returned (.bool (xg 1 20000 (Dt.mk d ts).tr).1) ∧ Below w.heap.size w w' := by
 have hM : Mg w w ([]) := Mg.start w
 refine qz (l := [(0, .agg (d.cells ts.length).toArray)]) Tryz.func44 rfl Tryz.ntmps44 rfl rfl ?_
 intro Q hret hnorm hP a hA
 refine wp_seq_k (fun K1 hK1 => ?_)
 refine wp_region_lit ?_
 refine jk (vs := [.int .i64 d.k, .int .i64 d.n, .bool d.y.q.b1, .slice d.y.o1 d.y.q.t1.length d.y.c1, .slice d.y.o2 d.y.q.q1.length d.y.c2, .bool d.y.q.b2, .slice d.y.o3 d.y.q.t2.length d.y.c3, .slice d.y.o4 d.y.q.q2.length d.y.c4, .string d.s, .slice d.ro d.rl.length d.rc, .slice d.lo ts.length d.lc]) (t := 30) hA hM rfl rfl rfl (fun g => .pointer (some ⟨g, 0, none⟩)) (zg rfl rfl) (by decide) ?_
 intro g2 w3 hM a hA
 refine qa hA rfl rfl rfl (qb rfl) ?_
 intro a hA
 refine qf ?_
 refine hK1 _ _ ?_
 refine wp_seq_k (fun K4 hK4 => ?_)
 have hB1 := hM.bel
 have hH1 := hM.here 0 (cs := d.cells ts.length) rfl
 replace hM : Mg w3 w3 [] := Mg.start w3
 refine wp_region_lit ?_
 refine jk (vs := [.int .i64 0]) (t := 3) hA hM rfl rfl rfl (fun g => .pointer (some ⟨g, 0, none⟩)) (zx (z := .int .i64 0) (by kernel_rfl) rfl) (by decide) ?_
 intro g5 w6 hM a hA
 refine jb (us := [.int .i64 20000]) (L' := (.obj g5 (.cells #[.int .i64 20000] 3) :: [])) hA hM rfl rfl (zu rfl rfl rfl (by kernel_rfl) hM 0 rfl rfl rfl) 0 rfl rfl rfl ?_
 intro w7 hM
 refine qf ?_
 refine hK4 _ _ ?_
 refine wp_seq_k (fun K8 hK8 => ?_)
 refine wp_region_lit ?_
 refine qm hA rfl rfl rfl (qh rfl rfl (fun w => by kernel_rfl)) (fitsAt_all (Dt.mk d ts) (Dt.keep hB1 _ hrd) hH1 hM (by omega) (by omega) (by omega) (by omega)) ?_
 rintro _ w10 ⟨rfl, hM9⟩
 replace hM : Mg w3 w10 (.obj g5 (.cells #[.int .i64 ((xg 1 20000 (Dt.mk d ts).tr).2)] 3) :: []) := hM9
 refine ⟨_, rfl, ?_⟩
 intro a hA
 refine qa hA rfl rfl rfl (qb rfl) ?_
 intro a hA
 refine qf ?_
 refine hK8 _ _ ?_
 refine wp_ret ?_
 refine hret _ _ ?_
 refine za (v := .bool ((xg 1 20000 (Dt.mk d ts).tr).1)) hA rfl (.cons (qk rfl) .nil) rfl ?_
 exact ⟨rfl, hB1.trans (hM.bel.mono hB1.size)⟩
theorem sound_mk {w : World} {d : Nd} {ts : List Dt} (hrd : (Dt.mk d ts).rd w) (hT : Tabs8 w) : Calls Tryz.prog 18 #[.agg (d.cells ts.length).toArray] w fun e w' => e = .returned (.bool (ve zp (Dt.mk d ts).tr)) ∧ Below w.heap.size w w' := by
 have hM : Mg w w ([]) := Mg.start w
 refine qz (l := [(0, .agg (d.cells ts.length).toArray)]) Tryz.func18 rfl Tryz.ntmps18 rfl rfl ?_
 intro Q hret hnorm hP a hA
 refine wp_seq_k (fun K1 hK1 => ?_)
 refine wp_region_lit ?_
 refine jk (vs := [.int .i64 d.k, .int .i64 d.n, .bool d.y.q.b1, .slice d.y.o1 d.y.q.t1.length d.y.c1, .slice d.y.o2 d.y.q.q1.length d.y.c2, .bool d.y.q.b2, .slice d.y.o3 d.y.q.t2.length d.y.c3, .slice d.y.o4 d.y.q.q2.length d.y.c4, .string d.s, .slice d.ro d.rl.length d.rc, .slice d.lo ts.length d.lc]) (t := 30) hA hM rfl rfl rfl (fun g => .pointer (some ⟨g, 0, none⟩)) (zg rfl rfl) (by decide) ?_
 intro g2 w3 hM a hA
 refine qa hA rfl rfl rfl (qb rfl) ?_
 intro a hA
 refine qf ?_
 refine hK1 _ _ ?_
 refine wp_seq_k (fun K4 hK4 => ?_)
 refine wp_region_lit ?_
 refine qa hA rfl rfl rfl (ja hM TrC_isS_30 rfl 0 rfl (cs := [.int .i64 d.k, .int .i64 d.n, .bool d.y.q.b1, .slice d.y.o1 d.y.q.t1.length d.y.c1, .slice d.y.o2 d.y.q.q1.length d.y.c2, .bool d.y.q.b2, .slice d.y.o3 d.y.q.t2.length d.y.c3, .slice d.y.o4 d.y.q.q2.length d.y.c4, .string d.s, .slice d.ro d.rl.length d.rc, .slice d.lo ts.length d.lc]) rfl rfl) ?_
 intro a hA
 rcases Bool.eq_false_or_eq_true ((xg 1 20000 (Dt.mk d ts).tr).1) with hb5 | hb5
 · refine qm hA rfl rfl rfl (qh rfl rfl (fun w => by kernel_rfl)) ((hb5 ▸ fits_any (Dt.keep hM.bel _ hrd))) ?_
   rintro _ w7 ⟨rfl, hb6⟩
   replace hM := hM.call hb6
   refine ⟨_, rfl, ?_⟩
   intro a hA
   refine qa hA rfl rfl rfl (qe rfl) ?_
   intro a hA
   refine qa hA rfl rfl rfl (ja hM TrC_isS_30 rfl 0 rfl (cs := [.int .i64 d.k, .int .i64 d.n, .bool d.y.q.b1, .slice d.y.o1 d.y.q.t1.length d.y.c1, .slice d.y.o2 d.y.q.q1.length d.y.c2, .bool d.y.q.b2, .slice d.y.o3 d.y.q.t2.length d.y.c3, .slice d.y.o4 d.y.q.q2.length d.y.c4, .string d.s, .slice d.ro d.rl.length d.rc, .slice d.lo ts.length d.lc]) rfl rfl) ?_
   intro a hA
   rcases Bool.eq_false_or_eq_true (xl zp (Dt.mk d ts).tr) with hb8 | hb8
   · refine qm hA rfl rfl rfl (qh rfl rfl (fun w => by kernel_rfl)) ((hb8 ▸ qge (Dt.mk d ts) (Dt.keep hM.bel _ hrd) (hT.below hM.bel))) ?_
     rintro _ w10 ⟨rfl, hb9⟩
     replace hM := hM.call hb9
     refine ⟨_, rfl, ?_⟩
     intro a hA
     refine qa (v := .bool true) hA rfl rfl rfl (ql rfl rfl rfl rfl) ?_
     intro a hA
     refine qa hA rfl rfl rfl (qb rfl) ?_
     intro a hA
     refine qf ?_
     refine hK4 _ _ ?_
     refine wp_ret ?_
     refine hret _ _ ?_
     refine za (v := .bool true) hA rfl (.cons (qk rfl) .nil) rfl ?_
     exact ⟨by unfold ve; simp_all, hM.bel⟩
   · refine qm hA rfl rfl rfl (qh rfl rfl (fun w => by kernel_rfl)) ((hb8 ▸ qge (Dt.mk d ts) (Dt.keep hM.bel _ hrd) (hT.below hM.bel))) ?_
     rintro _ w12 ⟨rfl, hb11⟩
     replace hM := hM.call hb11
     refine ⟨_, rfl, ?_⟩
     intro a hA
     refine qa (v := .bool false) hA rfl rfl rfl (ql rfl rfl rfl rfl) ?_
     intro a hA
     refine qa hA rfl rfl rfl (qb rfl) ?_
     intro a hA
     refine qf ?_
     refine hK4 _ _ ?_
     refine wp_ret ?_
     refine hret _ _ ?_
     refine za (v := .bool false) hA rfl (.cons (qk rfl) .nil) rfl ?_
     exact ⟨by unfold ve; simp_all, hM.bel⟩
 · refine qm hA rfl rfl rfl (qh rfl rfl (fun w => by kernel_rfl)) ((hb5 ▸ fits_any (Dt.keep hM.bel _ hrd))) ?_
   rintro _ w14 ⟨rfl, hb13⟩
   replace hM := hM.call hb13
   refine ⟨_, rfl, ?_⟩
   intro a hA
   refine qa hA rfl rfl rfl (qe rfl) ?_
   intro a hA
   refine qj hA rfl rfl rfl ?_
   intro a hA
   refine qj hA rfl rfl rfl ?_
   intro a hA
   refine qa (v := .bool false) hA rfl rfl rfl (ql rfl rfl rfl rfl) ?_
   intro a hA
   refine qa hA rfl rfl rfl (qb rfl) ?_
   intro a hA
   refine qf ?_
   refine hK4 _ _ ?_
   refine wp_ret ?_
   refine hret _ _ ?_
   refine za (v := .bool false) hA rfl (.cons (qk rfl) .nil) rfl ?_
   exact ⟨by unfold ve; simp_all, hM.bel⟩
theorem sound_any {w : World} {t : Dt} (hrd : t.rd w) (hT : Tabs8 w) : Calls Tryz.prog 18 #[.agg t.cells.toArray] w fun e w' => e = .returned (.bool (ve zp t.tr)) ∧ Below w.heap.size w w' := by
  obtain ⟨d, ts⟩ := t
  exact sound_mk hrd hT
end Go.Proofs.YtoopkbedjbnhhaaGreatDoor.G
namespace Go.Proofs.YtoopkbedjbnhhaaGreatDoor.G
open Go.RowKit
set_option maxRecDepth 100000
theorem JcF_isS_30 : IsS Tryz.prog 30 11 := ⟨⟨_, Tryz.underlying30⟩, by kernel_rfl⟩
theorem qad {w w5 w' : World} (h : w.heap.size ≤ w5.heap.size) : made w5 w' ⊆ made w w' := fun c hc => by
  obtain ⟨b, o, rfl, h1, h2⟩ := yw hc
  have hlt := (Array.getElem?_eq_some_iff.1 h2).1
  exact qeb (by omega) (by omega) h2
theorem Its.ok {w0 : World} {t : Dt} {xs : List Dt} {n : Nat} (h : Its w0 t xs) (hb : t.tr.bulk ≤ n + 1) (k : Nat) : ItOk w0 n (xs.drop k) := ⟨fun x hx => h.rd x (qjj hx), fun x hx => h.sh x (qjj hx), fun x hx => by have := h.lt x (qjj hx); omega⟩
theorem Its.ok0 {w0 : World} {t : Dt} {xs : List Dt} {n : Nat} (h : Its w0 t xs) (hb : t.tr.bulk ≤ n + 1) : ItOk w0 n xs := ⟨h.rd, h.sh, fun x hx => by have := h.lt x hx; omega⟩
theorem Its.as {w0 : World} {t : Dt} {xs : List Dt} (h : Its w0 t xs) (ha : (zw t.tr).isSome = true) : zw t.tr = some (xs.map Dt.tr) := by
  obtain ⟨l, hl⟩ := Option.isSome_iff_exists.1 ha
  rw [hl, h.is l hl]
theorem vm {α : Type} {o : Option α} (h : o.isSome = false) : o = none := by simpa using h
theorem sub_any {w0 w : World} {n : Nat} {t : Dt} (h0 : Below w0.heap.size w0 w) (ht : t.rd w0) (hs : xl zp t.tr = true) (hb : t.tr.bulk ≤ n + 1) (hn : n + 1 ≤ 4000000) (ih : Subs n) : Calls Tryz.prog 119 #[.agg (t.d.cells t.ts.length).toArray] w fun e w' => ∃ fv, e = .returned (.tuple #[fv, .bool (zy (n + 1) t.tr).isSome]) ∧ (∀ p, zy (n + 1) t.tr = some p → TV RN w0 (made w w') fv p) ∧ Below w.heap.size w w' := by
 have hM : Mg w w ([]) := Mg.start w
 refine qz (l := [(0, .agg (t.d.cells t.ts.length).toArray)]) Tryz.func119 rfl Tryz.ntmps119 rfl rfl ?_
 intro Q hret hnorm hP a hA
 refine wp_seq_k (fun K1 hK1 => ?_)
 refine wp_region_lit ?_
 refine jk (vs := (t.d.cells t.ts.length)) (t := 30) hA hM rfl rfl rfl (fun g => .pointer (some ⟨g, 0, none⟩)) (zg rfl rfl) (by decide) ?_
 intro g2 w3 hM a hA
 refine qa hA rfl rfl rfl (qb rfl) ?_
 intro a hA
 refine qa hA rfl rfl rfl (qb rfl) ?_
 intro a hA
 refine qf ?_
 refine hK1 _ _ ?_
 refine wp_seq_k (fun K4 hK4 => ?_)
 refine wp_seq_k (fun K5 hK5 => ?_)
 refine wp_region_lit ?_
 refine qa hA rfl rfl rfl (ja hM JcF_isS_30 rfl 0 rfl (cs := (t.d.cells t.ts.length)) rfl rfl) ?_
 intro a hA
 rcases Bool.eq_false_or_eq_true ((jc t.tr).isSome) with hb6 | hb6
 · refine qm hA rfl rfl rfl (qh rfl rfl (fun w => by kernel_rfl)) ((hb6 ▸ ut (Dt.keep (h0.trans (hM.bel.mono h0.size)) _ ht))) ?_
   rintro _ w8 ⟨rfl, hb7⟩
   replace hM := hM.call hb7
   refine ⟨_, rfl, ?_⟩
   intro a hA
   refine qa hA rfl rfl rfl (qe rfl) ?_
   intro a hA
   refine qa (v := .int .i64 ((zr t.d.y.q).1)) hA rfl rfl rfl (qn (vs := [.int .i64 ((zr t.d.y.q).1), .bool true]) rfl rfl) ?_
   intro a hA
   refine qa (v := .bool true) hA rfl rfl rfl (qn (vs := [.int .i64 ((zr t.d.y.q).1), .bool true]) rfl rfl) ?_
   intro a hA
   refine jk (vs := [.int .i64 0]) (t := 3) hA hM rfl rfl rfl (fun g => .pointer (some ⟨g, 0, none⟩)) (zx (z := .int .i64 0) (by kernel_rfl) rfl) (by decide) ?_
   intro g9 w10 hM a hA
   refine jb (us := [.int .i64 ((zr t.d.y.q).1)]) (L' := (.obj g9 (.cells #[.int .i64 ((zr t.d.y.q).1)] 3) :: .obj g2 (.cells (t.d.cells t.ts.length).toArray 30) :: [])) hA hM rfl rfl (zu rfl rfl rfl (by kernel_rfl) hM 0 rfl rfl rfl) 0 rfl rfl rfl ?_
   intro w11 hM
   refine qa hA rfl rfl rfl (qb rfl) ?_
   intro a hA
   refine qf ?_
   refine hK5 _ _ ?_
   refine wp_seq_k (fun K12 hK12 => ?_)
   refine wp_region_lit ?_
   refine qa hA rfl rfl rfl (qe rfl) ?_
   intro a hA
   refine qf ?_
   refine hK12 _ _ ?_
   refine wp_cond_true (hA.ev rfl) ?_
   refine wp_seq_k (fun K13 hK13 => ?_)
   refine wp_region_lit ?_
   refine qa (v := .func (.func 148) #[] [.pointer (some ⟨g9, 0, none⟩)].toArray) hA rfl rfl rfl (ji rfl) ?_
   intro a hA
   refine qa hA rfl rfl rfl (qb rfl) ?_
   intro a hA
   refine qa hA rfl rfl rfl (qb rfl) ?_
   intro a hA
   refine qf ?_
   refine hK13 _ _ ?_
   refine wp_ret ?_
   refine hret _ _ ?_
   refine za (v := .tuple #[.func (.func 148) #[] [.pointer (some ⟨g9, 0, none⟩)].toArray, .bool true]) hA rfl (.cons (qk rfl) (.cons (qk rfl) .nil)) rfl ?_
   obtain ⟨z9, hz9⟩ := Option.isSome_iff_exists.1 hb6
   have e8 := num_is hz9
   rw [e8] at hM
   have e9 := qhf (n := n) hz9
   exact ⟨_, by rw [e9]; rfl, fun p hp => (by rw [e9] at hp; cases hp; exact tvE hM), hM.bel⟩
 · refine qm hA rfl rfl rfl (qh rfl rfl (fun w => by kernel_rfl)) ((hb6 ▸ ut (Dt.keep (h0.trans (hM.bel.mono h0.size)) _ ht))) ?_
   rintro _ w15 ⟨rfl, hb14⟩
   replace hM := hM.call hb14
   refine ⟨_, rfl, ?_⟩
   intro a hA
   refine qa hA rfl rfl rfl (qe rfl) ?_
   intro a hA
   refine qa (v := .int .i64 ((zr t.d.y.q).1)) hA rfl rfl rfl (qn (vs := [.int .i64 ((zr t.d.y.q).1), .bool false]) rfl rfl) ?_
   intro a hA
   refine qa (v := .bool false) hA rfl rfl rfl (qn (vs := [.int .i64 ((zr t.d.y.q).1), .bool false]) rfl rfl) ?_
   intro a hA
   refine jk (vs := [.int .i64 0]) (t := 3) hA hM rfl rfl rfl (fun g => .pointer (some ⟨g, 0, none⟩)) (zx (z := .int .i64 0) (by kernel_rfl) rfl) (by decide) ?_
   intro g16 w17 hM a hA
   refine jb (us := [.int .i64 ((zr t.d.y.q).1)]) (L' := (.obj g16 (.cells #[.int .i64 ((zr t.d.y.q).1)] 3) :: .obj g2 (.cells (t.d.cells t.ts.length).toArray 30) :: [])) hA hM rfl rfl (zu rfl rfl rfl (by kernel_rfl) hM 0 rfl rfl rfl) 0 rfl rfl rfl ?_
   intro w18 hM
   refine qa hA rfl rfl rfl (qb rfl) ?_
   intro a hA
   refine qf ?_
   refine hK5 _ _ ?_
   refine wp_seq_k (fun K19 hK19 => ?_)
   refine wp_region_lit ?_
   refine qa hA rfl rfl rfl (qe rfl) ?_
   intro a hA
   refine qf ?_
   refine hK19 _ _ ?_
   refine wp_cond_false (hA.ev rfl) ?_
   refine wp_skip ?_
   refine hK4 _ _ ?_
   refine wp_seq_k (fun K20 hK20 => ?_)
   refine wp_region_lit ?_
   refine qa hA rfl rfl rfl (ja hM JcF_isS_30 rfl 1 rfl (cs := (t.d.cells t.ts.length)) rfl rfl) ?_
   intro a hA
   rcases Bool.eq_false_or_eq_true ((zw t.tr).isSome) with hb21 | hb21
   · refine qm hA rfl rfl rfl (qh rfl rfl (fun w => by kernel_rfl)) ((hb21 ▸ qbe (h0.trans (hM.bel.mono h0.size)) ht hs (by omega))) ?_
     rintro _ w25 ⟨so22, ca23, xs, rfl, hIt, hM24⟩
     replace hM : Mg w w25 (.row 30 11 (.slice so22 xs.length ca23) xs.length (cellsOf xs) :: .obj g16 (.cells #[.int .i64 ((zr t.d.y.q).1)] 3) :: .obj g2 (.cells (t.d.cells t.ts.length).toArray 30) :: []) := (hM.both hM24 (qw (by simp) (qw (by simp) (qy zd))) (qw (by simp) (qy zd)))
     refine ⟨_, rfl, ?_⟩
     intro a hA
     refine qa hA rfl rfl rfl (qe rfl) ?_
     intro a hA
     refine qa (v := .slice so22 xs.length ca23) hA rfl rfl rfl (qn (vs := [.slice so22 xs.length ca23, .bool true]) rfl rfl) ?_
     intro a hA
     refine qa (v := .bool true) hA rfl rfl rfl (qn (vs := [.slice so22 xs.length ca23, .bool true]) rfl rfl) ?_
     intro a hA
     refine qa hA rfl rfl rfl (qb rfl) ?_
     intro a hA
     refine qa hA rfl rfl rfl (qb rfl) ?_
     intro a hA
     refine qf ?_
     refine hK20 _ _ ?_
     refine wp_seq_k (fun K26 hK26 => ?_)
     refine wp_region_lit ?_
     refine qa hA rfl rfl rfl (qe rfl) ?_
     intro a hA
     rcases Bool.eq_false_or_eq_true (isW xs) with hb27 | hb27
     · refine qm hA rfl rfl rfl (qh rfl rfl (fun w => by kernel_rfl)) (cut_any (jq (hM.has 0 rfl)).1 (fun x hx => Dt.keep (h0.trans (hM.bel.mono h0.size)) _ (hIt.rd x hx)) (by have := hIt.le; omega) hb27) ?_
       rintro _ w29 ⟨rfl, hb28⟩
       replace hM := hM.call hb28
       refine ⟨_, rfl, ?_⟩
       intro a hA
       refine qa hA rfl rfl rfl (qe rfl) ?_
       intro a hA
       refine qa (v := .string (zj xs)) hA rfl rfl rfl (qn (vs := [.string (zj xs), .slice ((if ca23 = 1 then so22 else so22.map (·.add (1 * 11)))) ((xs.drop 1).length) ((ca23 - 1)), .bool true]) rfl rfl) ?_
       intro a hA
       refine qa (v := .slice ((if ca23 = 1 then so22 else so22.map (·.add (1 * 11)))) ((xs.drop 1).length) ((ca23 - 1))) hA rfl rfl rfl (qn (vs := [.string (zj xs), .slice ((if ca23 = 1 then so22 else so22.map (·.add (1 * 11)))) ((xs.drop 1).length) ((ca23 - 1)), .bool true]) rfl rfl) ?_
       intro a hA
       refine qa (v := .bool true) hA rfl rfl rfl (qn (vs := [.string (zj xs), .slice ((if ca23 = 1 then so22 else so22.map (·.add (1 * 11)))) ((xs.drop 1).length) ((ca23 - 1)), .bool true]) rfl rfl) ?_
       intro a hA
       refine qa hA rfl rfl rfl (qb rfl) ?_
       intro a hA
       refine qa hA rfl rfl rfl (qb rfl) ?_
       intro a hA
       refine qa hA rfl rfl rfl (qb rfl) ?_
       intro a hA
       refine qf ?_
       refine hK26 _ _ ?_
       refine wp_seq_k (fun K30 hK30 => ?_)
       refine wp_block ?_
       refine wp_seq_k (fun K31 hK31 => ?_)
       refine wp_region_lit ?_
       refine qa hA rfl rfl rfl (qe rfl) ?_
       intro a hA
       refine qa (v := .bool false) hA rfl rfl rfl (qp rfl qt) ?_
       intro a hA
       refine qa hA rfl rfl rfl (qe rfl) ?_
       intro a hA
       refine qa hA rfl rfl rfl (qe rfl) ?_
       intro a hA
       refine qa (v := .bool false) hA rfl rfl rfl (qp rfl qt) ?_
       intro a hA
       refine qa (v := .bool false) hA rfl rfl rfl (ql rfl rfl rfl rfl) ?_
       intro a hA
       refine qa hA rfl rfl rfl (qb rfl) ?_
       intro a hA
       refine qf ?_
       refine hK31 _ _ ?_
       refine wp_cond_false (hA.ev rfl) ?_
       refine wp_seq_k (fun K32 hK32 => ?_)
       refine wp_region_lit ?_
       refine qa hA rfl rfl rfl (qe rfl) ?_
       intro a hA
       rcases Bool.eq_false_or_eq_true (decide (zj xs = ⟨#[62, 61]⟩)) with hb33 | hb33
       · have hb33' := of_decide_eq_true hb33
         refine qa (v := .bool true) hA rfl rfl rfl (qg rfl rfl (fun w => (zq Tryz.underlying9 w).trans (by rw [hb33] <;> rfl))) ?_
         intro a hA
         refine qa hA rfl rfl rfl (qb rfl) ?_
         intro a hA
         refine qf ?_
         refine hK32 _ _ ?_
         refine wp_cond_true (hA.ev rfl) ?_
         refine wp_seq_k (fun K34 hK34 => ?_)
         refine wp_region_lit ?_
         refine qa hA rfl rfl rfl (qe rfl) ?_
         intro a hA
         have hz36 := hM.bel.size
         refine qm hA rfl rfl rfl (qh rfl rfl (fun w => by kernel_rfl)) (boundOf2_any (h0.trans (hM.bel.mono h0.size)) ((jq (hM.has 0 rfl)).1.drop ca23 1 (qhc (hM.has 0 rfl))) (hIt.ok hb 1) (by have := hIt.le; rw [List.length_drop]; omega)) ?_
         rintro _ w37 ⟨fv9, rfl, hT9, hb35⟩
         replace hM := hM.call hb35
         refine ⟨_, rfl, ?_⟩
         intro a hA
         refine qa (v := fv9) hA rfl rfl rfl (qn (vs := [fv9, .bool (((jv ((xs.drop 1).map fun x : Dt => jc x.tr)).map fun b => fun z => decide (b ≤ z)).isSome)]) rfl rfl) ?_
         intro a hA
         refine qa (v := .bool (((jv ((xs.drop 1).map fun x : Dt => jc x.tr)).map fun b => fun z => decide (b ≤ z)).isSome)) hA rfl rfl rfl (qn (vs := [fv9, .bool (((jv ((xs.drop 1).map fun x : Dt => jc x.tr)).map fun b => fun z => decide (b ≤ z)).isSome)]) rfl rfl) ?_
         intro a hA
         refine qa hA rfl rfl rfl (qb rfl) ?_
         intro a hA
         refine qa hA rfl rfl rfl (qb rfl) ?_
         intro a hA
         refine qf ?_
         refine hK34 _ _ ?_
         refine wp_ret ?_
         refine hret _ _ ?_
         refine za (v := .tuple #[fv9, .bool (((jv ((xs.drop 1).map fun x : Dt => jc x.tr)).map fun b => fun z => decide (b ≤ z)).isSome)]) hA rfl (.cons (qk rfl) (.cons (qk rfl) .nil)) rfl ?_
         have hn9 := vm hb6
         have ha9 := hIt.as hb21
         have hw38 : zj xs = wGe := of_decide_eq_true hb33
         have e9 := (uh (n := n) hn9 ha9 hb27).trans (by rw [if_pos hw38])
         exact ⟨_, by rw [e9], fun p hp => (hT9 p (by rw [e9] at hp; exact hp)).sub (qad hz36), hM.bel⟩
       · have hb33' := of_decide_eq_false hb33
         refine qa (v := .bool false) hA rfl rfl rfl (qg rfl rfl (fun w => (zq Tryz.underlying9 w).trans (by rw [hb33] <;> rfl))) ?_
         intro a hA
         refine qa hA rfl rfl rfl (qb rfl) ?_
         intro a hA
         refine qf ?_
         refine hK32 _ _ ?_
         refine wp_cond_false (hA.ev rfl) ?_
         refine wp_seq_k (fun K39 hK39 => ?_)
         refine wp_region_lit ?_
         refine qa hA rfl rfl rfl (qe rfl) ?_
         intro a hA
         rcases Bool.eq_false_or_eq_true (decide (zj xs = ⟨#[60, 61]⟩)) with hb40 | hb40
         · have hb40' := of_decide_eq_true hb40
           refine qa (v := .bool true) hA rfl rfl rfl (qg rfl rfl (fun w => (zq Tryz.underlying9 w).trans (by rw [hb40] <;> rfl))) ?_
           intro a hA
           refine qa hA rfl rfl rfl (qb rfl) ?_
           intro a hA
           refine qf ?_
           refine hK39 _ _ ?_
           refine wp_cond_true (hA.ev rfl) ?_
           refine wp_seq_k (fun K41 hK41 => ?_)
           refine wp_region_lit ?_
           refine qa hA rfl rfl rfl (qe rfl) ?_
           intro a hA
           have hz43 := hM.bel.size
           refine qm hA rfl rfl rfl (qh rfl rfl (fun w => by kernel_rfl)) (boundOf3_any (h0.trans (hM.bel.mono h0.size)) ((jq (hM.has 0 rfl)).1.drop ca23 1 (qhc (hM.has 0 rfl))) (hIt.ok hb 1) (by have := hIt.le; rw [List.length_drop]; omega)) ?_
           rintro _ w44 ⟨fv9, rfl, hT9, hb42⟩
           replace hM := hM.call hb42
           refine ⟨_, rfl, ?_⟩
           intro a hA
           refine qa (v := fv9) hA rfl rfl rfl (qn (vs := [fv9, .bool (((jv ((xs.drop 1).map fun x : Dt => jc x.tr)).map fun b => fun z => decide (z ≤ b)).isSome)]) rfl rfl) ?_
           intro a hA
           refine qa (v := .bool (((jv ((xs.drop 1).map fun x : Dt => jc x.tr)).map fun b => fun z => decide (z ≤ b)).isSome)) hA rfl rfl rfl (qn (vs := [fv9, .bool (((jv ((xs.drop 1).map fun x : Dt => jc x.tr)).map fun b => fun z => decide (z ≤ b)).isSome)]) rfl rfl) ?_
           intro a hA
           refine qa hA rfl rfl rfl (qb rfl) ?_
           intro a hA
           refine qa hA rfl rfl rfl (qb rfl) ?_
           intro a hA
           refine qf ?_
           refine hK41 _ _ ?_
           refine wp_ret ?_
           refine hret _ _ ?_
           refine za (v := .tuple #[fv9, .bool (((jv ((xs.drop 1).map fun x : Dt => jc x.tr)).map fun b => fun z => decide (z ≤ b)).isSome)]) hA rfl (.cons (qk rfl) (.cons (qk rfl) .nil)) rfl ?_
           have hn9 := vm hb6
           have ha9 := hIt.as hb21
           have hw45 : ¬ zj xs = wGe := of_decide_eq_false hb33
           have hw46 : zj xs = wLe := of_decide_eq_true hb40
           have e9 := (uh (n := n) hn9 ha9 hb27).trans (by rw [if_neg hw45, if_pos hw46])
           exact ⟨_, by rw [e9], fun p hp => (hT9 p (by rw [e9] at hp; exact hp)).sub (qad hz43), hM.bel⟩
         · have hb40' := of_decide_eq_false hb40
           refine qa (v := .bool false) hA rfl rfl rfl (qg rfl rfl (fun w => (zq Tryz.underlying9 w).trans (by rw [hb40] <;> rfl))) ?_
           intro a hA
           refine qa hA rfl rfl rfl (qb rfl) ?_
           intro a hA
           refine qf ?_
           refine hK39 _ _ ?_
           refine wp_cond_false (hA.ev rfl) ?_
           refine wp_skip ?_
           refine hK30 _ _ ?_
           refine wp_seq_k (fun K47 hK47 => ?_)
           refine wp_region_lit ?_
           refine qa hA rfl rfl rfl (qe rfl) ?_
           intro a hA
           refine qa hA rfl rfl rfl (qe rfl) ?_
           intro a hA
           have hz49 := hM.bel.size
           refine qm hA rfl rfl rfl (qh rfl rfl (fun w => by kernel_rfl)) (joinedN_any (h0.trans (hM.bel.mono h0.size)) ((jq (hM.has 0 rfl)).1.drop ca23 1 (qhc (hM.has 0 rfl))) (hIt.ok hb 1) (by have := hIt.le; rw [List.length_drop]; omega) ih) ?_
           rintro _ w50 ⟨fv9, rfl, hT9, hb48⟩
           replace hM := hM.call hb48
           refine ⟨_, rfl, ?_⟩
           intro a hA
           refine qa (v := fv9) hA rfl rfl rfl (qn (vs := [fv9, .bool ((jf (zj xs) ((xs.drop 1).map fun x : Dt => zy n x.tr)).isSome)]) rfl rfl) ?_
           intro a hA
           refine qa (v := .bool ((jf (zj xs) ((xs.drop 1).map fun x : Dt => zy n x.tr)).isSome)) hA rfl rfl rfl (qn (vs := [fv9, .bool ((jf (zj xs) ((xs.drop 1).map fun x : Dt => zy n x.tr)).isSome)]) rfl rfl) ?_
           intro a hA
           refine qa hA rfl rfl rfl (qb rfl) ?_
           intro a hA
           refine qa hA rfl rfl rfl (qb rfl) ?_
           intro a hA
           refine qf ?_
           refine hK47 _ _ ?_
           refine wp_ret ?_
           refine hret _ _ ?_
           refine za (v := .tuple #[fv9, .bool ((jf (zj xs) ((xs.drop 1).map fun x : Dt => zy n x.tr)).isSome)]) hA rfl (.cons (qk rfl) (.cons (qk rfl) .nil)) rfl ?_
           have hn9 := vm hb6
           have ha9 := hIt.as hb21
           have hw51 : ¬ zj xs = wGe := of_decide_eq_false hb33
           have hw52 : ¬ zj xs = wLe := of_decide_eq_false hb40
           have e9 := (uh (n := n) hn9 ha9 hb27).trans (by rw [if_neg hw51, if_neg hw52])
           exact ⟨_, by rw [e9], fun p hp => (hT9 p (by rw [e9] at hp; exact hp)).sub (qad hz49), hM.bel⟩
     · refine qm hA rfl rfl rfl (qh rfl rfl (fun w => by kernel_rfl)) (cut_no (jq (hM.has 0 rfl)).1 (fun x hx => Dt.keep (h0.trans (hM.bel.mono h0.size)) _ (hIt.rd x hx)) (by have := hIt.le; omega) hb27) ?_
       rintro _ w54 ⟨rfl, hb53⟩
       replace hM := hM.call hb53
       refine ⟨_, rfl, ?_⟩
       intro a hA
       refine qa hA rfl rfl rfl (qe rfl) ?_
       intro a hA
       refine qa (v := .string (⟨#[]⟩)) hA rfl rfl rfl (qn (vs := [.string (⟨#[]⟩), .slice none 0 0, .bool false]) rfl rfl) ?_
       intro a hA
       refine qa (v := .slice none 0 0) hA rfl rfl rfl (qn (vs := [.string (⟨#[]⟩), .slice none 0 0, .bool false]) rfl rfl) ?_
       intro a hA
       refine qa (v := .bool false) hA rfl rfl rfl (qn (vs := [.string (⟨#[]⟩), .slice none 0 0, .bool false]) rfl rfl) ?_
       intro a hA
       refine qa hA rfl rfl rfl (qb rfl) ?_
       intro a hA
       refine qa hA rfl rfl rfl (qb rfl) ?_
       intro a hA
       refine qa hA rfl rfl rfl (qb rfl) ?_
       intro a hA
       refine qf ?_
       refine hK26 _ _ ?_
       refine wp_seq_k (fun K55 hK55 => ?_)
       refine wp_block ?_
       refine wp_seq_k (fun K56 hK56 => ?_)
       refine wp_region_lit ?_
       refine qa hA rfl rfl rfl (qe rfl) ?_
       intro a hA
       refine qa (v := .bool false) hA rfl rfl rfl (qp rfl qt) ?_
       intro a hA
       refine qa hA rfl rfl rfl (qe rfl) ?_
       intro a hA
       refine qa hA rfl rfl rfl (qe rfl) ?_
       intro a hA
       refine qa (v := .bool true) hA rfl rfl rfl (qp rfl qt) ?_
       intro a hA
       refine qa (v := .bool true) hA rfl rfl rfl (ql rfl rfl rfl rfl) ?_
       intro a hA
       refine qa hA rfl rfl rfl (qb rfl) ?_
       intro a hA
       refine qf ?_
       refine hK56 _ _ ?_
       refine wp_cond_true (hA.ev rfl) ?_
       refine wp_seq_k (fun K57 hK57 => ?_)
       refine wp_region_lit ?_
       refine qa hA rfl rfl rfl (qb rfl) ?_
       intro a hA
       refine qa hA rfl rfl rfl (qb rfl) ?_
       intro a hA
       refine qf ?_
       refine hK57 _ _ ?_
       refine wp_ret ?_
       refine hret _ _ ?_
       refine za (v := .tuple #[.nilFunc, .bool false]) hA rfl (.cons (qk rfl) (.cons (qk rfl) .nil)) rfl ?_
       have hn9 := vm hb6
       have ha9 := hIt.as hb21
       have e9 := qhg (n := n) hn9 ha9 hb27
       exact ⟨_, by rw [e9]; rfl, fun p hp => (by rw [e9] at hp; cases hp), hM.bel⟩
   · refine qm hA rfl rfl rfl (qh rfl rfl (fun w => by kernel_rfl)) ((hb21 ▸ qbe (h0.trans (hM.bel.mono h0.size)) ht hs (by omega))) ?_
     rintro _ w61 ⟨so58, ca59, xs, rfl, hIt, hM60⟩
     replace hM : Mg w w61 (.row 30 11 (.slice so58 xs.length ca59) xs.length (cellsOf xs) :: .obj g16 (.cells #[.int .i64 ((zr t.d.y.q).1)] 3) :: .obj g2 (.cells (t.d.cells t.ts.length).toArray 30) :: []) := (hM.both hM60 (qw (by simp) (qw (by simp) (qy zd))) (qw (by simp) (qy zd)))
     refine ⟨_, rfl, ?_⟩
     intro a hA
     refine qa hA rfl rfl rfl (qe rfl) ?_
     intro a hA
     refine qa (v := .slice so58 xs.length ca59) hA rfl rfl rfl (qn (vs := [.slice so58 xs.length ca59, .bool false]) rfl rfl) ?_
     intro a hA
     refine qa (v := .bool false) hA rfl rfl rfl (qn (vs := [.slice so58 xs.length ca59, .bool false]) rfl rfl) ?_
     intro a hA
     refine qa hA rfl rfl rfl (qb rfl) ?_
     intro a hA
     refine qa hA rfl rfl rfl (qb rfl) ?_
     intro a hA
     refine qf ?_
     refine hK20 _ _ ?_
     refine wp_seq_k (fun K62 hK62 => ?_)
     refine wp_region_lit ?_
     refine qa hA rfl rfl rfl (qe rfl) ?_
     intro a hA
     rcases Bool.eq_false_or_eq_true (isW xs) with hb63 | hb63
     · refine qm hA rfl rfl rfl (qh rfl rfl (fun w => by kernel_rfl)) (cut_any (jq (hM.has 0 rfl)).1 (fun x hx => Dt.keep (h0.trans (hM.bel.mono h0.size)) _ (hIt.rd x hx)) (by have := hIt.le; omega) hb63) ?_
       rintro _ w65 ⟨rfl, hb64⟩
       replace hM := hM.call hb64
       refine ⟨_, rfl, ?_⟩
       intro a hA
       refine qa hA rfl rfl rfl (qe rfl) ?_
       intro a hA
       refine qa (v := .string (zj xs)) hA rfl rfl rfl (qn (vs := [.string (zj xs), .slice ((if ca59 = 1 then so58 else so58.map (·.add (1 * 11)))) ((xs.drop 1).length) ((ca59 - 1)), .bool true]) rfl rfl) ?_
       intro a hA
       refine qa (v := .slice ((if ca59 = 1 then so58 else so58.map (·.add (1 * 11)))) ((xs.drop 1).length) ((ca59 - 1))) hA rfl rfl rfl (qn (vs := [.string (zj xs), .slice ((if ca59 = 1 then so58 else so58.map (·.add (1 * 11)))) ((xs.drop 1).length) ((ca59 - 1)), .bool true]) rfl rfl) ?_
       intro a hA
       refine qa (v := .bool true) hA rfl rfl rfl (qn (vs := [.string (zj xs), .slice ((if ca59 = 1 then so58 else so58.map (·.add (1 * 11)))) ((xs.drop 1).length) ((ca59 - 1)), .bool true]) rfl rfl) ?_
       intro a hA
       refine qa hA rfl rfl rfl (qb rfl) ?_
       intro a hA
       refine qa hA rfl rfl rfl (qb rfl) ?_
       intro a hA
       refine qa hA rfl rfl rfl (qb rfl) ?_
       intro a hA
       refine qf ?_
       refine hK62 _ _ ?_
       refine wp_seq_k (fun K66 hK66 => ?_)
       refine wp_block ?_
       refine wp_seq_k (fun K67 hK67 => ?_)
       refine wp_region_lit ?_
       refine qa hA rfl rfl rfl (qe rfl) ?_
       intro a hA
       refine qa (v := .bool true) hA rfl rfl rfl (qp rfl qt) ?_
       intro a hA
       refine qa hA rfl rfl rfl (qe rfl) ?_
       intro a hA
       refine qj hA rfl rfl rfl ?_
       intro a hA
       refine qj hA rfl rfl rfl ?_
       intro a hA
       refine qa (v := .bool true) hA rfl rfl rfl (ql rfl rfl rfl rfl) ?_
       intro a hA
       refine qa hA rfl rfl rfl (qb rfl) ?_
       intro a hA
       refine qf ?_
       refine hK67 _ _ ?_
       refine wp_cond_true (hA.ev rfl) ?_
       refine wp_seq_k (fun K68 hK68 => ?_)
       refine wp_region_lit ?_
       refine qa hA rfl rfl rfl (qb rfl) ?_
       intro a hA
       refine qa hA rfl rfl rfl (qb rfl) ?_
       intro a hA
       refine qf ?_
       refine hK68 _ _ ?_
       refine wp_ret ?_
       refine hret _ _ ?_
       refine za (v := .tuple #[.nilFunc, .bool false]) hA rfl (.cons (qk rfl) (.cons (qk rfl) .nil)) rfl ?_
       have hn9 := vm hb6
       have e9 := qef (n := n) hn9 (vm hb21)
       exact ⟨_, by rw [e9]; rfl, fun p hp => (by rw [e9] at hp; cases hp), hM.bel⟩
     · refine qm hA rfl rfl rfl (qh rfl rfl (fun w => by kernel_rfl)) (cut_no (jq (hM.has 0 rfl)).1 (fun x hx => Dt.keep (h0.trans (hM.bel.mono h0.size)) _ (hIt.rd x hx)) (by have := hIt.le; omega) hb63) ?_
       rintro _ w70 ⟨rfl, hb69⟩
       replace hM := hM.call hb69
       refine ⟨_, rfl, ?_⟩
       intro a hA
       refine qa hA rfl rfl rfl (qe rfl) ?_
       intro a hA
       refine qa (v := .string (⟨#[]⟩)) hA rfl rfl rfl (qn (vs := [.string (⟨#[]⟩), .slice none 0 0, .bool false]) rfl rfl) ?_
       intro a hA
       refine qa (v := .slice none 0 0) hA rfl rfl rfl (qn (vs := [.string (⟨#[]⟩), .slice none 0 0, .bool false]) rfl rfl) ?_
       intro a hA
       refine qa (v := .bool false) hA rfl rfl rfl (qn (vs := [.string (⟨#[]⟩), .slice none 0 0, .bool false]) rfl rfl) ?_
       intro a hA
       refine qa hA rfl rfl rfl (qb rfl) ?_
       intro a hA
       refine qa hA rfl rfl rfl (qb rfl) ?_
       intro a hA
       refine qa hA rfl rfl rfl (qb rfl) ?_
       intro a hA
       refine qf ?_
       refine hK62 _ _ ?_
       refine wp_seq_k (fun K71 hK71 => ?_)
       refine wp_block ?_
       refine wp_seq_k (fun K72 hK72 => ?_)
       refine wp_region_lit ?_
       refine qa hA rfl rfl rfl (qe rfl) ?_
       intro a hA
       refine qa (v := .bool true) hA rfl rfl rfl (qp rfl qt) ?_
       intro a hA
       refine qa hA rfl rfl rfl (qe rfl) ?_
       intro a hA
       refine qj hA rfl rfl rfl ?_
       intro a hA
       refine qj hA rfl rfl rfl ?_
       intro a hA
       refine qa (v := .bool true) hA rfl rfl rfl (ql rfl rfl rfl rfl) ?_
       intro a hA
       refine qa hA rfl rfl rfl (qb rfl) ?_
       intro a hA
       refine qf ?_
       refine hK72 _ _ ?_
       refine wp_cond_true (hA.ev rfl) ?_
       refine wp_seq_k (fun K73 hK73 => ?_)
       refine wp_region_lit ?_
       refine qa hA rfl rfl rfl (qb rfl) ?_
       intro a hA
       refine qa hA rfl rfl rfl (qb rfl) ?_
       intro a hA
       refine qf ?_
       refine hK73 _ _ ?_
       refine wp_ret ?_
       refine hret _ _ ?_
       refine za (v := .tuple #[.nilFunc, .bool false]) hA rfl (.cons (qk rfl) (.cons (qk rfl) .nil)) rfl ?_
       have hn9 := vm hb6
       have e9 := qef (n := n) hn9 (vm hb21)
       exact ⟨_, by rw [e9]; rfl, fun p hp => (by rw [e9] at hp; cases hp), hM.bel⟩
theorem subs_all : ∀ n : Nat, n ≤ 4000000 → Subs n
  | 0, _ => by intro h0 ht hs hb; exact absurd (Nat.le_trans (yh _) hb) (Nat.not_succ_le_zero _)
  | n + 1, hn => by intro h0 ht hs hb b he; exact he ▸ sub_any h0 ht hs hb hn (subs_all n (by omega))
theorem ref_any {w0 w : World} {n : Nat} {t : Dt} (h0 : Below w0.heap.size w0 w) (ht : t.rd w0) (hs : xl zp t.tr = true) (hb : t.tr.bulk ≤ n + 1) (hn : n + 1 ≤ 4000000) (ih : Refs n) (ihs : Subs n) : Calls Tryz.prog 36 #[.agg (t.d.cells t.ts.length).toArray] w fun e w' => ∃ fv, e = .returned (.tuple #[fv, .bool (jj (n + 1) t.tr).isSome]) ∧ (∀ p, jj (n + 1) t.tr = some p → TV RV w0 (made w w') fv p) ∧ Below w.heap.size w w' := by
 have hM : Mg w w ([]) := Mg.start w
 refine qz (l := [(0, .agg (t.d.cells t.ts.length).toArray)]) Tryz.func36 rfl Tryz.ntmps36 rfl rfl ?_
 intro Q hret hnorm hP a hA
 refine wp_seq_k (fun K1 hK1 => ?_)
 refine wp_region_lit ?_
 refine jk (vs := (t.d.cells t.ts.length)) (t := 30) hA hM rfl rfl rfl (fun g => .pointer (some ⟨g, 0, none⟩)) (zg rfl rfl) (by decide) ?_
 intro g2 w3 hM a hA
 refine qa hA rfl rfl rfl (qb rfl) ?_
 intro a hA
 refine qa hA rfl rfl rfl (qb rfl) ?_
 intro a hA
 refine qf ?_
 refine hK1 _ _ ?_
 refine wp_seq_k (fun K4 hK4 => ?_)
 refine wp_region_lit ?_
 refine qa hA rfl rfl rfl (ja hM JcF_isS_30 rfl 0 rfl (cs := (t.d.cells t.ts.length)) rfl rfl) ?_
 intro a hA
 rcases Bool.eq_false_or_eq_true ((zw t.tr).isSome) with hb5 | hb5
 · refine qm hA rfl rfl rfl (qh rfl rfl (fun w => by kernel_rfl)) ((hb5 ▸ qbe (h0.trans (hM.bel.mono h0.size)) ht hs (by omega))) ?_
   rintro _ w9 ⟨so6, ca7, xs, rfl, hIt, hM8⟩
   replace hM : Mg w w9 (.row 30 11 (.slice so6 xs.length ca7) xs.length (cellsOf xs) :: .obj g2 (.cells (t.d.cells t.ts.length).toArray 30) :: []) := (hM.both hM8 (qw (by simp) (qy zd)) (qw (by simp) (qy zd)))
   refine ⟨_, rfl, ?_⟩
   intro a hA
   refine qa hA rfl rfl rfl (qe rfl) ?_
   intro a hA
   refine qa (v := .slice so6 xs.length ca7) hA rfl rfl rfl (qn (vs := [.slice so6 xs.length ca7, .bool true]) rfl rfl) ?_
   intro a hA
   refine qa (v := .bool true) hA rfl rfl rfl (qn (vs := [.slice so6 xs.length ca7, .bool true]) rfl rfl) ?_
   intro a hA
   refine qa hA rfl rfl rfl (qb rfl) ?_
   intro a hA
   refine qa hA rfl rfl rfl (qb rfl) ?_
   intro a hA
   refine qf ?_
   refine hK4 _ _ ?_
   refine wp_seq_k (fun K10 hK10 => ?_)
   refine wp_seq_k (fun K11 hK11 => ?_)
   refine wp_region_lit ?_
   refine qa hA rfl rfl rfl (qe rfl) ?_
   intro a hA
   refine qa (v := .bool false) hA rfl rfl rfl (qp rfl qt) ?_
   intro a hA
   refine qf ?_
   refine hK11 _ _ ?_
   refine wp_cond_false (hA.ev rfl) ?_
   refine wp_skip ?_
   refine hK10 _ _ ?_
   refine wp_seq_k (fun K12 hK12 => ?_)
   refine wp_seq_k (fun K13 hK13 => ?_)
   refine wp_region_lit ?_
   refine qa hA rfl rfl rfl (qe rfl) ?_
   intro a hA
   rcases Bool.eq_false_or_eq_true (isW xs) with hb14 | hb14
   · refine qm hA rfl rfl rfl (qh rfl rfl (fun w => by kernel_rfl)) (cut_any (jq (hM.has 0 rfl)).1 (fun x hx => Dt.keep (h0.trans (hM.bel.mono h0.size)) _ (hIt.rd x hx)) (by have := hIt.le; omega) hb14) ?_
     rintro _ w16 ⟨rfl, hb15⟩
     replace hM := hM.call hb15
     refine ⟨_, rfl, ?_⟩
     intro a hA
     refine qa hA rfl rfl rfl (qe rfl) ?_
     intro a hA
     refine qa (v := .string (zj xs)) hA rfl rfl rfl (qn (vs := [.string (zj xs), .slice ((if ca7 = 1 then so6 else so6.map (·.add (1 * 11)))) ((xs.drop 1).length) ((ca7 - 1)), .bool true]) rfl rfl) ?_
     intro a hA
     refine qa (v := .slice ((if ca7 = 1 then so6 else so6.map (·.add (1 * 11)))) ((xs.drop 1).length) ((ca7 - 1))) hA rfl rfl rfl (qn (vs := [.string (zj xs), .slice ((if ca7 = 1 then so6 else so6.map (·.add (1 * 11)))) ((xs.drop 1).length) ((ca7 - 1)), .bool true]) rfl rfl) ?_
     intro a hA
     refine qa (v := .bool true) hA rfl rfl rfl (qn (vs := [.string (zj xs), .slice ((if ca7 = 1 then so6 else so6.map (·.add (1 * 11)))) ((xs.drop 1).length) ((ca7 - 1)), .bool true]) rfl rfl) ?_
     intro a hA
     refine qa hA rfl rfl rfl (qb rfl) ?_
     intro a hA
     refine qa hA rfl rfl rfl (qb rfl) ?_
     intro a hA
     refine qa hA rfl rfl rfl (qb rfl) ?_
     intro a hA
     refine qf ?_
     refine hK13 _ _ ?_
     refine wp_seq_k (fun K17 hK17 => ?_)
     refine wp_region_lit ?_
     refine qa hA rfl rfl rfl (qe rfl) ?_
     intro a hA
     refine qf ?_
     refine hK17 _ _ ?_
     refine wp_cond_true (hA.ev rfl) ?_
     refine wp_seq_k (fun K18 hK18 => ?_)
     refine wp_region_lit ?_
     refine qa hA rfl rfl rfl (qe rfl) ?_
     intro a hA
     refine qa hA rfl rfl rfl (qe rfl) ?_
     intro a hA
     have hz20 := hM.bel.size
     refine qm hA rfl rfl rfl (qh rfl rfl (fun w => by kernel_rfl)) (joinedV_any (h0.trans (hM.bel.mono h0.size)) ((jq (hM.has 0 rfl)).1.drop ca7 1 (qhc (hM.has 0 rfl))) (hIt.ok hb 1) (by have := hIt.le; rw [List.length_drop]; omega) ih) ?_
     rintro _ w21 ⟨fv9, rfl, hT9, hb19⟩
     replace hM := hM.call hb19
     refine ⟨_, rfl, ?_⟩
     intro a hA
     refine qa (v := fv9) hA rfl rfl rfl (qn (vs := [fv9, .bool ((jf (zj xs) ((xs.drop 1).map fun x : Dt => jj n x.tr)).isSome)]) rfl rfl) ?_
     intro a hA
     refine qa (v := .bool ((jf (zj xs) ((xs.drop 1).map fun x : Dt => jj n x.tr)).isSome)) hA rfl rfl rfl (qn (vs := [fv9, .bool ((jf (zj xs) ((xs.drop 1).map fun x : Dt => jj n x.tr)).isSome)]) rfl rfl) ?_
     intro a hA
     refine qa hA rfl rfl rfl (qb rfl) ?_
     intro a hA
     refine qa hA rfl rfl rfl (qb rfl) ?_
     intro a hA
     refine qf ?_
     refine hK18 _ _ ?_
     refine wp_ret ?_
     refine hret _ _ ?_
     refine za (v := .tuple #[fv9, .bool ((jf (zj xs) ((xs.drop 1).map fun x : Dt => jj n x.tr)).isSome)]) hA rfl (.cons (qk rfl) (.cons (qk rfl) .nil)) rfl ?_
     have ha9 := hIt.as hb5
     have e9 := jr (n := n) ha9 hb14
     exact ⟨_, by rw [e9], fun p hp => (hT9 p (by rw [e9] at hp; exact hp)).sub (qad hz20), hM.bel⟩
   · refine qm hA rfl rfl rfl (qh rfl rfl (fun w => by kernel_rfl)) (cut_no (jq (hM.has 0 rfl)).1 (fun x hx => Dt.keep (h0.trans (hM.bel.mono h0.size)) _ (hIt.rd x hx)) (by have := hIt.le; omega) hb14) ?_
     rintro _ w23 ⟨rfl, hb22⟩
     replace hM := hM.call hb22
     refine ⟨_, rfl, ?_⟩
     intro a hA
     refine qa hA rfl rfl rfl (qe rfl) ?_
     intro a hA
     refine qa (v := .string (⟨#[]⟩)) hA rfl rfl rfl (qn (vs := [.string (⟨#[]⟩), .slice none 0 0, .bool false]) rfl rfl) ?_
     intro a hA
     refine qa (v := .slice none 0 0) hA rfl rfl rfl (qn (vs := [.string (⟨#[]⟩), .slice none 0 0, .bool false]) rfl rfl) ?_
     intro a hA
     refine qa (v := .bool false) hA rfl rfl rfl (qn (vs := [.string (⟨#[]⟩), .slice none 0 0, .bool false]) rfl rfl) ?_
     intro a hA
     refine qa hA rfl rfl rfl (qb rfl) ?_
     intro a hA
     refine qa hA rfl rfl rfl (qb rfl) ?_
     intro a hA
     refine qa hA rfl rfl rfl (qb rfl) ?_
     intro a hA
     refine qf ?_
     refine hK13 _ _ ?_
     refine wp_seq_k (fun K24 hK24 => ?_)
     refine wp_region_lit ?_
     refine qa hA rfl rfl rfl (qe rfl) ?_
     intro a hA
     refine qf ?_
     refine hK24 _ _ ?_
     refine wp_cond_false (hA.ev rfl) ?_
     refine wp_skip ?_
     refine hK12 _ _ ?_
     refine wp_seq_k (fun K25 hK25 => ?_)
     refine wp_region_lit ?_
     refine qa hA rfl rfl rfl (qe rfl) ?_
     intro a hA
     have hz27 := hM.bel.size
     refine qm hA rfl rfl rfl (qh rfl rfl (fun w => by kernel_rfl)) (rowOf_any (h0.trans (hM.bel.mono h0.size)) (jq (hM.has 0 rfl)).1 (hIt.ok0 hb) (by have := hIt.le; omega) ihs) ?_
     rintro _ w28 ⟨fv9, rfl, hT9, hb26⟩
     replace hM := hM.call hb26
     refine ⟨_, rfl, ?_⟩
     intro a hA
     refine qa (v := fv9) hA rfl rfl rfl (qn (vs := [fv9, .bool (((jz (xs.map fun x : Dt => zy n x.tr)).map yx).isSome)]) rfl rfl) ?_
     intro a hA
     refine qa (v := .bool (((jz (xs.map fun x : Dt => zy n x.tr)).map yx).isSome)) hA rfl rfl rfl (qn (vs := [fv9, .bool (((jz (xs.map fun x : Dt => zy n x.tr)).map yx).isSome)]) rfl rfl) ?_
     intro a hA
     refine qa hA rfl rfl rfl (qb rfl) ?_
     intro a hA
     refine qa hA rfl rfl rfl (qb rfl) ?_
     intro a hA
     refine qf ?_
     refine hK25 _ _ ?_
     refine wp_ret ?_
     refine hret _ _ ?_
     refine za (v := .tuple #[fv9, .bool (((jz (xs.map fun x : Dt => zy n x.tr)).map yx).isSome)]) hA rfl (.cons (qk rfl) (.cons (qk rfl) .nil)) rfl ?_
     have ha9 := hIt.as hb5
     have e9 := ya (n := n) ha9 hb14
     exact ⟨_, by rw [e9], fun p hp => (hT9 p (by rw [e9] at hp; exact hp)).sub (qad hz27), hM.bel⟩
 · refine qm hA rfl rfl rfl (qh rfl rfl (fun w => by kernel_rfl)) ((hb5 ▸ qbe (h0.trans (hM.bel.mono h0.size)) ht hs (by omega))) ?_
   rintro _ w32 ⟨so29, ca30, xs, rfl, hIt, hM31⟩
   replace hM : Mg w w32 (.row 30 11 (.slice so29 xs.length ca30) xs.length (cellsOf xs) :: .obj g2 (.cells (t.d.cells t.ts.length).toArray 30) :: []) := (hM.both hM31 (qw (by simp) (qy zd)) (qw (by simp) (qy zd)))
   refine ⟨_, rfl, ?_⟩
   intro a hA
   refine qa hA rfl rfl rfl (qe rfl) ?_
   intro a hA
   refine qa (v := .slice so29 xs.length ca30) hA rfl rfl rfl (qn (vs := [.slice so29 xs.length ca30, .bool false]) rfl rfl) ?_
   intro a hA
   refine qa (v := .bool false) hA rfl rfl rfl (qn (vs := [.slice so29 xs.length ca30, .bool false]) rfl rfl) ?_
   intro a hA
   refine qa hA rfl rfl rfl (qb rfl) ?_
   intro a hA
   refine qa hA rfl rfl rfl (qb rfl) ?_
   intro a hA
   refine qf ?_
   refine hK4 _ _ ?_
   refine wp_seq_k (fun K33 hK33 => ?_)
   refine wp_seq_k (fun K34 hK34 => ?_)
   refine wp_region_lit ?_
   refine qa hA rfl rfl rfl (qe rfl) ?_
   intro a hA
   refine qa (v := .bool true) hA rfl rfl rfl (qp rfl qt) ?_
   intro a hA
   refine qf ?_
   refine hK34 _ _ ?_
   refine wp_cond_true (hA.ev rfl) ?_
   refine wp_seq_k (fun K35 hK35 => ?_)
   refine wp_region_lit ?_
   refine qa hA rfl rfl rfl (qb rfl) ?_
   intro a hA
   refine qa hA rfl rfl rfl (qb rfl) ?_
   intro a hA
   refine qf ?_
   refine hK35 _ _ ?_
   refine wp_ret ?_
   refine hret _ _ ?_
   refine za (v := .tuple #[.nilFunc, .bool false]) hA rfl (.cons (qk rfl) (.cons (qk rfl) .nil)) rfl ?_
   have e9 := qka (n := n) (vm hb5)
   exact ⟨_, by rw [e9]; rfl, fun p hp => (by rw [e9] at hp; cases hp), hM.bel⟩
theorem qkh : ∀ n : Nat, n ≤ 4000000 → Refs n
  | 0, _ => by intro h0 ht hs hb; exact absurd (Nat.le_trans (yh _) hb) (Nat.not_succ_le_zero _)
  | n + 1, hn => by intro h0 ht hs hb b he; exact he ▸ ref_any h0 ht hs hb hn (qkh n (by omega)) (subs_all n (by omega))
open Classical in
noncomputable def qeg (n : Nat) (l : List Int) (t : Tr) : Bool × Int := if ve zp t = true then (match jj n t with | none => (false, 12) | some f => if l.any vf = true then (false, 1) else (f l, 0)) else (false, 2)
theorem ver_form {n : Nat} {l : List Int} {t : Tr} (h : ve zp t = false) : qeg n l t = (false, 2) := by unfold qeg; rw [if_neg (by rw [h]; decide)]
theorem ver_forms {n : Nat} {l : List Int} {t : Tr} (h : ve zp t = true) (hr : jj n t = none) : qeg n l t = (false, 12) := by unfold qeg; rw [if_pos h, hr]
theorem ver_arg {n : Nat} {l : List Int} {t : Tr} {f : List Int → Bool} (h : ve zp t = true) (hr : jj n t = some f) (hl : l.any vf = true) : qeg n l t = (false, 1) := by unfold qeg; rw [if_pos h, hr]; exact if_pos hl
theorem ver_ok {n : Nat} {l : List Int} {t : Tr} {f : List Int → Bool} (h : ve zp t = true) (hr : jj n t = some f) (hl : l.any vf = false) : qeg n l t = (f l, 0) := by unfold qeg; rw [if_pos h, hr]; exact if_neg (by rw [hl]; decide)
theorem version_any {w : World} {n : Nat} {t : Dt} {l : List Int} {sv : Option Addr} {cv : Nat} (ht : t.rd w) (hT8 : Tabs8 w) (hb : t.tr.bulk ≤ n) (hn : n ≤ 4000000) (hv : Rc w sv (izC l)) (hll : l.length ≤ 2000000) : Calls Tryz.prog 13 #[.slice sv l.length cv, .agg (t.d.cells t.ts.length).toArray] w fun e w' => e = .returned (.tuple #[.bool (qeg n l t.tr).1, .int .i64 (qeg n l t.tr).2]) ∧ Below w.heap.size w w' := by
 have hM : Mg w w ([]) := Mg.start w
 refine qz (l := [(0, .slice sv l.length cv), (1, .agg (t.d.cells t.ts.length).toArray)]) Tryz.func13 rfl Tryz.ntmps13 rfl rfl ?_
 intro Q hret hnorm hP a hA
 refine wp_seq_k (fun K1 hK1 => ?_)
 refine wp_region_lit ?_
 refine jk (vs := (t.d.cells t.ts.length)) (t := 30) hA hM rfl rfl rfl (fun g => .pointer (some ⟨g, 0, none⟩)) (zg rfl rfl) (by decide) ?_
 intro g2 w3 hM a hA
 refine qa hA rfl rfl rfl (qb rfl) ?_
 intro a hA
 refine qa hA rfl rfl rfl (qb rfl) ?_
 intro a hA
 refine qf ?_
 refine hK1 _ _ ?_
 refine wp_seq_k (fun K4 hK4 => ?_)
 refine wp_seq_k (fun K5 hK5 => ?_)
 refine wp_region_lit ?_
 refine qa hA rfl rfl rfl (ja hM JcF_isS_30 rfl 0 rfl (cs := (t.d.cells t.ts.length)) rfl rfl) ?_
 intro a hA
 rcases Bool.eq_false_or_eq_true (ve zp t.tr) with hb6 | hb6
 · refine qm hA rfl rfl rfl (qh rfl rfl (fun w => by kernel_rfl)) ((hb6 ▸ sound_any (Dt.keep hM.bel _ ht) (hT8.below hM.bel))) ?_
   rintro _ w8 ⟨rfl, hb7⟩
   replace hM := hM.call hb7
   refine ⟨_, rfl, ?_⟩
   intro a hA
   refine qa (v := .bool false) hA rfl rfl rfl (qp rfl qt) ?_
   intro a hA
   refine qf ?_
   refine hK5 _ _ ?_
   refine wp_cond_false (hA.ev rfl) ?_
   refine wp_skip ?_
   refine hK4 _ _ ?_
   refine wp_seq_k (fun K9 hK9 => ?_)
   refine wp_region_lit ?_
   refine qa hA rfl rfl rfl (ja hM JcF_isS_30 rfl 0 rfl (cs := (t.d.cells t.ts.length)) rfl rfl) ?_
   intro a hA
   rcases Bool.eq_false_or_eq_true ((jj n t.tr).isSome) with hb10 | hb10
   · refine qm hA rfl rfl rfl (qh rfl rfl (fun w => by kernel_rfl)) (qkh n hn (hM.bel) ht (ug hb6) hb hb10) ?_
     rintro _ w12 ⟨fv9, rfl, hT9, hb11⟩
     obtain ⟨p9, hp9⟩ := Option.isSome_iff_exists.1 hb10
     obtain ⟨f9, cs9, e9, hi9, hr9⟩ := hT9 p9 hp9
     clear hT9
     subst e9
     replace hM : Mg w w12 (.obj g2 (.cells (t.d.cells t.ts.length).toArray 30) :: (made w8 w12 ++ [])) := hM.freezeAt 1 (qw (by simp) (qy zd)) hb11
     refine ⟨_, rfl, ?_⟩
     intro a hA
     refine qa hA rfl rfl rfl (qe rfl) ?_
     intro a hA
     refine qa (v := .func (.func f9) #[] cs9.toArray) hA rfl rfl rfl (qn (vs := [.func (.func f9) #[] cs9.toArray, .bool true]) rfl rfl) ?_
     intro a hA
     refine qa (v := .bool true) hA rfl rfl rfl (qn (vs := [.func (.func f9) #[] cs9.toArray, .bool true]) rfl rfl) ?_
     intro a hA
     refine qa hA rfl rfl rfl (qb rfl) ?_
     intro a hA
     refine qa hA rfl rfl rfl (qb rfl) ?_
     intro a hA
     refine qf ?_
     refine hK9 _ _ ?_
     refine wp_seq_k (fun K13 hK13 => ?_)
     refine wp_block ?_
     refine wp_seq_k (fun K14 hK14 => ?_)
     refine wp_region_lit ?_
     refine qa hA rfl rfl rfl (qe rfl) ?_
     intro a hA
     refine qa (v := .bool false) hA rfl rfl rfl (qp rfl qt) ?_
     intro a hA
     refine qa hA rfl rfl rfl (qb rfl) ?_
     intro a hA
     refine qf ?_
     refine hK14 _ _ ?_
     refine wp_cond_false (hA.ev rfl) ?_
     refine wp_seq_k (fun K15 hK15 => ?_)
     refine wp_region_lit ?_
     refine qa hA rfl rfl rfl (qe rfl) ?_
     intro a hA
     rcases Bool.eq_false_or_eq_true (l.any vf) with hb16 | hb16
     · refine qm hA rfl rfl rfl (qh rfl rfl (fun w => by kernel_rfl)) (oddI_any (hv.below hM.bel) (by omega) hb16) ?_
       rintro _ w18 ⟨rfl, hb17⟩
       replace hM := hM.call hb17
       refine ⟨_, rfl, ?_⟩
       intro a hA
       refine qa hA rfl rfl rfl (qb rfl) ?_
       intro a hA
       refine qf ?_
       refine hK15 _ _ ?_
       refine wp_cond_true (hA.ev rfl) ?_
       refine wp_seq_k (fun K19 hK19 => ?_)
       refine wp_region_lit ?_
       refine qa hA rfl rfl rfl (qb rfl) ?_
       intro a hA
       refine qa hA rfl rfl rfl (qb rfl) ?_
       intro a hA
       refine qf ?_
       refine hK19 _ _ ?_
       refine wp_ret ?_
       refine hret _ _ ?_
       refine za (v := .tuple #[.bool false, .int .i64 1]) hA rfl (.cons (qk rfl) (.cons (qk rfl) .nil)) rfl ?_
       exact ⟨by rw [ver_arg hb6 hp9 hb16], hM.bel⟩
     · refine qm hA rfl rfl rfl (qh rfl rfl (fun w => by kernel_rfl)) (oddI_any (hv.below hM.bel) (by omega) hb16) ?_
       rintro _ w21 ⟨rfl, hb20⟩
       replace hM := hM.call hb20
       refine ⟨_, rfl, ?_⟩
       intro a hA
       refine qa hA rfl rfl rfl (qb rfl) ?_
       intro a hA
       refine qf ?_
       refine hK15 _ _ ?_
       refine wp_cond_false (hA.ev rfl) ?_
       refine wp_skip ?_
       refine hK13 _ _ ?_
       refine wp_seq_k (fun K22 hK22 => ?_)
       refine wp_region_lit ?_
       refine qa hA rfl rfl rfl (qe rfl) ?_
       intro a hA
       refine qa hA rfl rfl rfl (qe rfl) ?_
       intro a hA
       refine qm hA rfl rfl rfl (xh rfl rfl hi9) (hr9 _ l _ hM.bel (hM.ob (fun c h => by simp only [List.mem_cons, List.mem_append] at h ⊢; simp [h])) ⟨_, _, rfl, hv.below hM.bel, hll⟩) ?_
       rintro _ w24 ⟨rfl, hb23⟩
       replace hM := hM.call hb23
       refine ⟨_, rfl, ?_⟩
       intro a hA
       refine qa hA rfl rfl rfl (qb rfl) ?_
       intro a hA
       refine qa hA rfl rfl rfl (qb rfl) ?_
       intro a hA
       refine qf ?_
       refine hK22 _ _ ?_
       refine wp_ret ?_
       refine hret _ _ ?_
       refine za (v := .tuple #[.bool (p9 l), .int .i64 0]) hA rfl (.cons (qk rfl) (.cons (qk rfl) .nil)) rfl ?_
       exact ⟨by rw [ver_ok hb6 hp9 hb16], hM.bel⟩
   · refine qm hA rfl rfl rfl (qh rfl rfl (fun w => by kernel_rfl)) (qkh n hn (hM.bel) ht (ug hb6) hb hb10) ?_
     rintro _ w26 ⟨fv9, rfl, hT9, hb25⟩
     replace hM := hM.call hb25
     refine ⟨_, rfl, ?_⟩
     intro a hA
     refine qa hA rfl rfl rfl (qe rfl) ?_
     intro a hA
     refine qa (v := fv9) hA rfl rfl rfl (qn (vs := [fv9, .bool false]) rfl rfl) ?_
     intro a hA
     refine qa (v := .bool false) hA rfl rfl rfl (qn (vs := [fv9, .bool false]) rfl rfl) ?_
     intro a hA
     refine qa hA rfl rfl rfl (qb rfl) ?_
     intro a hA
     refine qa hA rfl rfl rfl (qb rfl) ?_
     intro a hA
     refine qf ?_
     refine hK9 _ _ ?_
     refine wp_seq_k (fun K27 hK27 => ?_)
     refine wp_block ?_
     refine wp_seq_k (fun K28 hK28 => ?_)
     refine wp_region_lit ?_
     refine qa hA rfl rfl rfl (qe rfl) ?_
     intro a hA
     refine qa (v := .bool true) hA rfl rfl rfl (qp rfl qt) ?_
     intro a hA
     refine qa hA rfl rfl rfl (qb rfl) ?_
     intro a hA
     refine qf ?_
     refine hK28 _ _ ?_
     refine wp_cond_true (hA.ev rfl) ?_
     refine wp_seq_k (fun K29 hK29 => ?_)
     refine wp_region_lit ?_
     refine qa hA rfl rfl rfl (qb rfl) ?_
     intro a hA
     refine qa hA rfl rfl rfl (qb rfl) ?_
     intro a hA
     refine qf ?_
     refine hK29 _ _ ?_
     refine wp_ret ?_
     refine hret _ _ ?_
     refine za (v := .tuple #[.bool false, .int .i64 12]) hA rfl (.cons (qk rfl) (.cons (qk rfl) .nil)) rfl ?_
     exact ⟨by rw [ver_forms hb6 (vm hb10)], hM.bel⟩
 · refine qm hA rfl rfl rfl (qh rfl rfl (fun w => by kernel_rfl)) ((hb6 ▸ sound_any (Dt.keep hM.bel _ ht) (hT8.below hM.bel))) ?_
   rintro _ w31 ⟨rfl, hb30⟩
   replace hM := hM.call hb30
   refine ⟨_, rfl, ?_⟩
   intro a hA
   refine qa (v := .bool true) hA rfl rfl rfl (qp rfl qt) ?_
   intro a hA
   refine qf ?_
   refine hK5 _ _ ?_
   refine wp_cond_true (hA.ev rfl) ?_
   refine wp_seq_k (fun K32 hK32 => ?_)
   refine wp_region_lit ?_
   refine qa hA rfl rfl rfl (qb rfl) ?_
   intro a hA
   refine qa hA rfl rfl rfl (qb rfl) ?_
   intro a hA
   refine qf ?_
   refine hK32 _ _ ?_
   refine wp_ret ?_
   refine hret _ _ ?_
   refine za (v := .tuple #[.bool false, .int .i64 2]) hA rfl (.cons (qk rfl) (.cons (qk rfl) .nil)) rfl ?_
   exact ⟨by rw [ver_form hb6], hM.bel⟩
end Go.Proofs.YtoopkbedjbnhhaaGreatDoor.G
namespace Go.Proofs.YtoopkbedjbnhhaaGreatDoor.G
open Go.RowKit
def OkL (L : List Tr) : Prop := L.all (deepT 2) = true ∧ qji L + L.length + 1 ≤ 20000 ∧ L.all (xl zp) = true
theorem OkL.of {L M : List Tr} (h : OkL L) (hm : ∀ x ∈ M, x ∈ L) (hn : qji M + M.length ≤ qji L + L.length) : OkL M := ⟨List.all_eq_true.2 fun x hx => List.all_eq_true.1 h.1 x (hm x hx), by have := h.2.1; omega, List.all_eq_true.2 fun x hx => List.all_eq_true.1 h.2.2 x (hm x hx)⟩
end Go.Proofs.YtoopkbedjbnhhaaGreatDoor.G
namespace Go.Proofs.YtoopkbedjbnhhaaGreatDoor.G
open Go.RowKit
set_option maxRecDepth 100000
theorem JcM_is1_28 : Is1 Tryz.prog 28 := ⟨⟨_, Tryz.underlying28, rfl⟩, by kernel_rfl⟩
theorem JcM_is1_3 : Is1 Tryz.prog 3 := ⟨⟨_, Tryz.underlying3, rfl⟩, by kernel_rfl⟩
theorem JcM_is1_9 : Is1 Tryz.prog 9 := ⟨⟨_, Tryz.underlying9, rfl⟩, by kernel_rfl⟩
theorem JcM_fld_30_0 : FieldAt Tryz.prog 30 0 0 := ⟨_, _, Tryz.underlying30, rfl, rfl, by kernel_rfl⟩
theorem JcM_fld_30_2 : FieldAt Tryz.prog 30 2 2 := ⟨_, _, Tryz.underlying30, rfl, rfl, by kernel_rfl⟩
theorem JcM_fld_30_3 : FieldAt Tryz.prog 30 3 8 := ⟨_, _, Tryz.underlying30, rfl, rfl, by kernel_rfl⟩
theorem JcM_fld_30_5 : FieldAt Tryz.prog 30 5 10 := ⟨_, _, Tryz.underlying30, rfl, rfl, by kernel_rfl⟩
theorem JcM_isS_26 : IsS Tryz.prog 26 6 := ⟨⟨_, Tryz.underlying26⟩, by kernel_rfl⟩
theorem JcM_isS_30 : IsS Tryz.prog 30 11 := ⟨⟨_, Tryz.underlying30⟩, by kernel_rfl⟩
def vF {α : Type} (o : Option (α → Bool)) (a : α) : Bool := match o with | some q => q a | none => false
def nN (o : Option Int) : Int := o.getD (-1)
theorem none_bad : jo Q6.none = false := by rfl
theorem num_kind {t : Dt} (h : xl zp t.tr = true) (hk : t.d.k ≠ 3) : jc t.tr = none := by
  have h1 := (qci h).1
  cases t with
  | mk d ts =>
    rw [kv] at h1
    have h2 := (shape_bare h1).hq hk
    have h3 : (Dt.mk d ts).tr.q = Q6.none := by rw [Dt.tr_mk]; exact h2
    unfold jc
    rw [h3, qcj none_bad]
    exact if_neg (fun h => absurd h.1 (by decide))
theorem num_pos {t : Tr} {z : Int} (h : jc t = some z) : 0 ≤ z := by
  unfold jc at h
  split at h
  · rename_i h1
    cases h
    have h2 := h1.2
    unfold vf at h2
    simp only [Bool.or_eq_false_iff, decide_eq_false_iff_not] at h2
    omega
  · cases h
theorem qfh {t : Tr} : decide (0 ≤ nN (jc t)) = (jc t).isSome := by
  cases h : jc t with
  | none => rfl
  | some z => exact decide_eq_true (num_pos h)
theorem nn_some {t : Tr} (h : decide (0 ≤ nN (jc t)) = true) : ∃ z, jc t = some z ∧ nN (jc t) = z := by
  rw [qfh] at h
  obtain ⟨z, hz⟩ := Option.isSome_iff_exists.1 h
  exact ⟨z, hz, by rw [hz]; rfl⟩
theorem xv {t : Tr} (h : decide (0 ≤ nN (jc t)) = false) : jc t = none := by rw [qfh] at h; exact vm h
theorem allS_iff {β : Type} {l : List (Option β)} : (jz l).isSome = l.all Option.isSome := by
  induction l with
  | nil => rfl
  | cons o l ih => cases o with
    | none => rfl
    | some b => simp only [jz, List.all_cons, Option.isSome_map, ih, Option.isSome_some, Bool.true_and]
theorem qae {β : Type} : ∀ {l : List (Option β)} {ps : List β}, jz l = some ps → l = ps.map some
  | [], ps, h => by cases h; rfl
  | none :: l, ps, h => by cases h
  | some a :: l, ps, h => by
    simp only [jz] at h
    obtain ⟨cs, h1, rfl⟩ := Option.map_eq_some_iff.1 h
    rw [qae h1]
    rfl
theorem xt {β : Type} {xs : List Dt} {g : Dt → Option β} : (jz (xs.map g)).isSome = xs.all fun x => (g x).isSome := by rw [allS_iff, List.all_map]; rfl
section
variable {α : Type} {l : List (Option (α → Bool))}
theorem yt {w : ByteArray} (h : (jf w l).isSome = true) : (jz l).isSome = true := by
  unfold jf at h
  split at h
  · cases h
  · rename_i ps hps; rw [hps]; rfl
theorem qeh : (jf vu l).isSome = (jz l).isSome := by
  unfold jf
  split
  · rename_i h; rw [h]; rfl
  · rename_i ps h; rw [h, if_pos rfl]; rfl
theorem qhh : (jf wOr l).isSome = (jz l).isSome := by
  unfold jf
  split
  · rename_i h; rw [h]; rfl
  · rename_i ps h; rw [h, if_neg (by decide), if_pos rfl]; rfl
theorem ui {o : Option (α → Bool)} : (jf kg [o]).isSome = o.isSome := by
  cases o with
  | none => rfl
  | some p => show (jf kg [some p]).isSome = true; unfold jf; rw [show jz [some p] = some [p] from rfl]; simp only; rw [if_neg (by decide), if_neg (by decide), if_pos (by simp)]; rfl
theorem qaf (h : l.length ≠ 1) : jf kg l = none := by
  unfold jf
  split
  · rfl
  · rename_i ps hps
    rw [if_neg (by decide), if_neg (by decide), if_neg (fun k => h (by rw [← vy hps]; exact k.2))]
theorem uj {w : ByteArray} (h1 : w ≠ vu) (h2 : w ≠ wOr) (h3 : w ≠ kg) : jf w l = none := by
  unfold jf
  split
  · rfl
  · rw [if_neg h1, if_neg h2, if_neg (fun k => h3 k.1)]
theorem and_val (h : (jf vu l).isSome = true) (a : α) : vF (jf vu l) a = l.all fun o => vF o a := by
  obtain ⟨ps, hps⟩ := Option.isSome_iff_exists.1 (yt h)
  unfold jf
  rw [hps]
  simp only
  rw [if_pos trivial, qae hps]
  show (!(ps.map fun p => !(p a)).any id) = _
  clear h hps
  induction ps with
  | nil => rfl
  | cons p ps ih =>
    simp only [List.map_cons, List.any_cons, List.all_cons, id, ← ih]
    show _ = (p a && _)
    cases p a <;> simp
theorem or_val (h : (jf wOr l).isSome = true) (a : α) : vF (jf wOr l) a = l.any fun o => vF o a := by
  obtain ⟨ps, hps⟩ := Option.isSome_iff_exists.1 (yt h)
  unfold jf
  rw [hps]
  simp only
  rw [if_neg (by decide), if_pos trivial, qae hps]
  show (ps.map fun p => p a).any id = _
  clear h hps
  induction ps with
  | nil => rfl
  | cons p ps ih =>
    simp only [List.map_cons, List.any_cons, id, ← ih]
    rfl
theorem qhi {o : Option (α → Bool)} (h : o.isSome = true) (a : α) : vF (jf kg [o]) a = !(vF o a) := by
  obtain ⟨p, rfl⟩ := Option.isSome_iff_exists.1 h
  unfold jf
  rw [show jz [some p] = some [p] from rfl]
  simp only
  rw [if_neg (by decide), if_neg (by decide), if_pos (by simp)]
  rfl
end
theorem xx {o : Option Int} : jv [o] = o := by cases o <;> rfl
theorem qki {l : List (Option Int)} (h : l.length ≠ 1) : jv l = none := by
  unfold jv
  split
  · rename_i z hz; exact absurd (by rw [← vy hz]; rfl) h
  · rfl
section
variable {xs : List Dt} {p : Dt → Bool} {s i : Nat} {u : Dt} {b : Bool}
theorem dall (h : ∀ (j : Nat) u, s ≤ j → j < i → xs[j]? = some u → p u = true) (hi : xs.length ≤ i) : (xs.drop s).all p = true := List.all_eq_true.2 fun u hu => by
  obtain ⟨j, hj⟩ := List.mem_iff_getElem?.1 hu
  rw [List.getElem?_drop] at hj
  exact h (s + j) u (by omega) (Nat.lt_of_lt_of_le (List.getElem?_eq_some_iff.1 hj).1 hi) hj
theorem dmem (hs : s ≤ i) (hu : xs[i]? = some u) : u ∈ xs.drop s := List.mem_iff_getElem?.2 ⟨i - s, by rw [List.getElem?_drop, show s + (i - s) = i by omega]; exact hu⟩
theorem dnot (hs : s ≤ i) (hu : xs[i]? = some u) (hp : p u = false) : (xs.drop s).all p = false := by
  rw [List.all_eq_false]
  exact ⟨u, dmem hs hu, by rw [hp]; decide⟩
theorem dany (hs : s ≤ i) (hu : xs[i]? = some u) (hp : p u = true) : (xs.drop s).any p = true := List.any_eq_true.2 ⟨u, dmem hs hu, hp⟩
theorem dnone (h : ∀ (j : Nat) u, s ≤ j → j < i → xs[j]? = some u → p u = false) (hi : xs.length ≤ i) : (xs.drop s).any p = false := by
  rw [List.any_eq_false]
  intro u hu
  obtain ⟨j, hj⟩ := List.mem_iff_getElem?.1 hu
  rw [List.getElem?_drop] at hj
  rw [h (s + j) u (by omega) (Nat.lt_of_lt_of_le (List.getElem?_eq_some_iff.1 hj).1 hi) hj]
  decide
theorem din (h : ∀ (j : Nat) v, s ≤ j → j < i → xs[j]? = some v → p v = b) (hu : xs[i]? = some u) (hp : p u = b) : ∀ (j : Nat) v, s ≤ j → j < i + 1 → xs[j]? = some v → p v = b := fun j v h1 h2 h3 => if h9 : j < i then h j v h1 h9 h3 else by
  have h8 : j = i := by omega
  subst h8
  rw [hu] at h3
  rw [← Option.some.inj h3]
  exact hp
theorem qbg {β : Type} {g : Dt → Option β} (h : (jz ((xs.drop s).map g)).isSome = true) (hs : s ≤ i) (hu : xs[i]? = some u) : (g u).isSome = true := by
  rw [xt] at h
  exact List.all_eq_true.1 h u (dmem hs hu)
theorem xd (h : xs.length = 2) (hu : xs[1]? = some u) : xs.drop 1 = [u] := by
  match xs, h, hu with
  | [a, b], _, hu => simp at hu; simp [hu]
theorem vg {w : World} {so : Option Addr} (hR : Rt w so xs) (hD : ∀ t ∈ xs, t.rd w) (hu : xs[i]? = some u) : ∃ b o, so = some ⟨b, o, none⟩ ∧ Here w b (o + i * 11) (u.d.cells u.ts.length) := by
  obtain ⟨t, b, o, h1, _, _, h2, h3⟩ := kidL hR hD (List.getElem?_eq_some_iff.1 hu).1
  rw [hu] at h1
  cases h1
  exact ⟨b, o, h2, h3⟩
theorem here_at {w : World} {so : Option Addr} {b o : Nat} (hR : Rt w so xs) (hD : ∀ t ∈ xs, t.rd w) (hu : xs[i]? = some u) (hs : so = some ⟨b, o, none⟩) : Here w b (o + i * 11) (u.d.cells u.ts.length) := by
  obtain ⟨b2, o2, e, h⟩ := vg hR hD hu
  rw [hs] at e
  cases e
  exact h
end
noncomputable def ku (t : Tr) : ByteArray := match zw t with | some (h :: _) => (if h.k = 6 then h.s else ⟨#[]⟩) | _ => ⟨#[]⟩
theorem word_non {t : Tr} (h : zw t = none) : ku t = ⟨#[]⟩ := by unfold ku; rw [h]
theorem qkj {t : Tr} {xs : List Dt} (h : zw t = some (xs.map Dt.tr)) (hw : isW xs = false) : ku t = ⟨#[]⟩ := by
  unfold ku; rw [h]
  cases xs with
  | nil => rfl
  | cons a l =>
    have hk : ¬ a.tr.k = 6 := by rw [tr_k]; exact beq_eq_false_iff_ne.1 hw
    simp only [List.map_cons, if_neg hk]
theorem yi {t : Tr} {xs : List Dt} (h : zw t = some (xs.map Dt.tr)) (hw : isW xs = true) : ku t = zj xs := by
  unfold ku; rw [h]
  cases xs with
  | nil => cases hw
  | cons a l =>
    have hk : a.tr.k = 6 := by rw [tr_k]; exact beq_iff_eq.1 hw
    simp only [List.map_cons, if_pos hk]
    cases a; rw [Dt.tr_mk]; rfl
theorem qei {t : Tr} {xs : List Dt} {w : ByteArray} (h : zw t = some (xs.map Dt.tr)) (hw : ku t = w) (h0 : w ≠ ⟨#[]⟩) : isW xs = true ∧ zj xs = w := by
  cases k : isW xs with
  | false => rw [qkj h k] at hw; exact absurd hw.symm h0
  | true => exact ⟨rfl, by rw [← yi h k]; exact hw⟩
theorem isW_len {xs : List Dt} (h : isW xs = true) : 0 < xs.length := by
  cases xs with
  | nil => cases h
  | cons a l => simp
theorem xu {xs : List Dt} {t : Dt} (h : xs[0]? = some t) (hk : t.d.k = 6) : isW xs = true := by unfold isW; rw [qbd h, hk]; rfl
theorem qhj {xs : List Dt} {t : Dt} (h : xs[0]? = some t) (hk : ¬ t.d.k = 6) : isW xs = false := by unfold isW; rw [qbd h]; exact beq_eq_false_iff_ne.2 hk
theorem qia {xs : List Dt} (h : xs.length = 0) : isW xs = false := by rw [List.length_eq_zero_iff.1 h]; rfl
theorem ze {xs : List Dt} {t : Dt} (h : xs[0]? = some t) : zj xs = t.d.s := by unfold zj; rw [qbd h]
theorem its_end {w0 : World} {t p : Dt} {xs : List Dt} (htl : t.tr = vj (xs.map Dt.tr) p.tr) (hps : xl zp p.tr = true) (h8 : ¬ p.d.k = 8) (h1 : ∀ x ∈ xs, x.rd w0) (h2 : ∀ x ∈ xs, xl zp x.tr = true) (h3 : ∀ x ∈ xs, x.tr.bulk < t.tr.bulk) (hl : xs.length ≤ t.tr.bulk) : Its w0 t xs ∧ (p.d.k == 1) = (zw t.tr).isSome := by
  by_cases hk : p.d.k = 1
  · have ha := qjb htl hps hk
    exact ⟨⟨h1, h2, h3, fun l h => (by rw [ha] at h; exact (Option.some.inj h).symm), hl⟩, by rw [ha, hk]; rfl⟩
  · have ha := qjc htl h8 hk
    exact ⟨⟨h1, h2, h3, fun l h => (by rw [ha] at h; cases h), hl⟩, by rw [ha]; exact beq_eq_false_iff_ne.2 hk⟩
section
variable {n : Nat} {t : Tr} {xs : List Dt} (hn : jc t = none) (ha : zw t = some (xs.map Dt.tr)) (hw : isW xs = true)
include hn ha hw
theorem sf_ge (h : zj xs = wGe) : zy (n + 1) t = (jv ((xs.drop 1).map fun x => jc x.tr)).map fun b => fun z => decide (b ≤ z) := by rw [uh hn ha hw, if_pos h]
theorem sf_le (h : zj xs = wLe) : zy (n + 1) t = (jv ((xs.drop 1).map fun x => jc x.tr)).map fun b => fun z => decide (z ≤ b) := by rw [uh hn ha hw, if_neg (by rw [h]; decide), if_pos h]
theorem xe (h1 : zj xs ≠ wGe) (h2 : zj xs ≠ wLe) : zy (n + 1) t = jf (zj xs) ((xs.drop 1).map fun x => zy n x.tr) := by rw [uh hn ha hw, if_neg h1, if_neg h2]
end
theorem sub_must {w0 : World} {n : Nat} {t : Dt} {xs : List Dt} (hIt : Its w0 t xs) (hn : jc t.tr = none) (hp : (zy (n + 1) t.tr).isSome = true) : zw t.tr = some (xs.map Dt.tr) ∧ isW xs = true := by
  cases ha : zw t.tr with
  | none => rw [qef hn ha] at hp; cases hp
  | some l =>
    have e := hIt.is l ha
    subst e
    cases hw : isW xs with
    | false => rw [qhg hn ha hw] at hp; cases hp
    | true => exact ⟨rfl, rfl⟩
theorem ref_must {w0 : World} {n : Nat} {t : Dt} {xs : List Dt} (hIt : Its w0 t xs) (hp : (jj (n + 1) t.tr).isSome = true) : zw t.tr = some (xs.map Dt.tr) := by
  cases ha : zw t.tr with
  | none => rw [qka ha] at hp; cases hp
  | some l => rw [hIt.is l ha]
theorem two_bound {l : List (Option Int)} {α : Type} {f : Int → α} (h : ((jv l).map f).isSome = true) : l.length = 1 := by
  apply Classical.byContradiction
  intro k
  rw [qki k] at h
  cases h
theorem two_not {α : Type} {l : List (Option (α → Bool))} (h : (jf kg l).isSome = true) : l.length = 1 := by
  apply Classical.byContradiction
  intro k
  rw [qaf k] at h
  cases h
theorem row_val : ∀ {xs : List Dt} {g : Dt → Option (Int → Bool)} {ps : List (Int → Bool)} {v : List Int}, jz (xs.map g) = some ps → xs.length ≤ v.length → (∀ (j : Nat) u z, xs[j]? = some u → v[j]? = some z → vF (g u) z = true) → yx ps v = true
  | [], g, ps, v, h, hl, hv => by cases h; rfl
  | x :: xs, g, ps, [], h, hl, hv => by simp at hl
  | x :: xs, g, ps, z :: v, h, hl, hv => by
    have e := qae h
    rw [List.map_cons] at e
    cases ps with
    | nil => cases e
    | cons p ps =>
      rw [List.map_cons, List.cons.injEq] at e
      have h1 := hv 0 x z rfl rfl
      rw [e.1] at h1
      have h2 : jz (xs.map g) = some ps := by rw [List.map_cons, e.1, jz] at h; obtain ⟨cs, h3, h4⟩ := Option.map_eq_some_iff.1 h; cases h4; exact h3
      show (p z && yx ps v) = true
      rw [show p z = true from h1, row_val (v := v) h2 (by simpa using hl) (fun j u y h3 h4 => hv (j + 1) u y (by simpa using h3) (by simpa using h4))]
      rfl
theorem row_no : ∀ {xs : List Dt} {g : Dt → Option (Int → Bool)} {ps : List (Int → Bool)} {v : List Int} {j : Nat} {u : Dt} {z : Int}, jz (xs.map g) = some ps → xs[j]? = some u → v[j]? = some z → vF (g u) z = false → yx ps v = false
  | [], g, ps, v, j, u, z, h, hu, hz, hv => by simp at hu
  | x :: xs, g, ps, [], j, u, z, h, hu, hz, hv => by simp at hz
  | x :: xs, g, ps, y :: v, j, u, z, h, hu, hz, hv => by
    have e := qae h
    rw [List.map_cons] at e
    cases ps with
    | nil => cases e
    | cons p ps =>
      rw [List.map_cons, List.cons.injEq] at e
      have h2 : jz (xs.map g) = some ps := by rw [List.map_cons, e.1, jz] at h; obtain ⟨cs, h3, h4⟩ := Option.map_eq_some_iff.1 h; cases h4; exact h3
      show (p y && yx ps v) = false
      cases j with
      | zero =>
        simp only [List.getElem?_cons_zero, Option.some.injEq] at hu hz
        subst hu hz
        rw [e.1] at hv
        rw [show p y = false from hv]; rfl
      | succ j =>
        rw [row_no h2 (by simpa using hu) (by simpa using hz) hv, Bool.and_false]
theorem vz {w : World} {t : Dt} (ht : t.rd w) (hs : xl zp t.tr = true) : Calls Tryz.prog 26 #[.agg (t.d.cells t.ts.length).toArray] w fun e w' => e = .returned (.int .i64 (nN (jc t.tr))) ∧ Below w.heap.size w w' := by
 have hM : Mg w w ([]) := Mg.start w
 refine qz (l := [(0, .agg (t.d.cells t.ts.length).toArray)]) Tryz.func26 rfl Tryz.ntmps26 rfl rfl ?_
 intro Q hret hnorm hP a hA
 refine wp_seq_k (fun K1 hK1 => ?_)
 refine wp_region_lit ?_
 refine jk (vs := (t.d.cells t.ts.length)) (t := 30) hA hM rfl rfl rfl (fun g => .pointer (some ⟨g, 0, none⟩)) (zg rfl rfl) (by decide) ?_
 intro g2 w3 hM a hA
 refine qa hA rfl rfl rfl (qb rfl) ?_
 intro a hA
 refine qf ?_
 refine hK1 _ _ ?_
 refine wp_seq_k (fun K4 hK4 => ?_)
 refine wp_seq_k (fun K5 hK5 => ?_)
 refine wp_region_lit ?_
 refine qa (v := .pointer (some ⟨g2, 0, none⟩)) hA rfl rfl rfl (qi JcM_fld_30_0 rfl rfl) ?_
 intro a hA
 refine qa hA rfl rfl rfl (zl hM JcM_is1_3 rfl 0 rfl rfl) ?_
 intro a hA
 rcases Bool.eq_false_or_eq_true ((t.d.k != 3)) with hb6 | hb6
 · have hb6' := bne_iff_ne.1 hb6
   refine qa (v := .bool true) hA rfl rfl rfl (qg rfl rfl (fun w => (jl w).trans (by rw [hb6]))) ?_
   intro a hA
   refine qf ?_
   refine hK5 _ _ ?_
   refine wp_cond_true (hA.ev rfl) ?_
   refine wp_seq_k (fun K7 hK7 => ?_)
   refine wp_region_lit ?_
   refine qa hA rfl rfl rfl (qb rfl) ?_
   intro a hA
   refine qf ?_
   refine hK7 _ _ ?_
   refine wp_ret ?_
   refine hret _ _ ?_
   refine za (v := .int .i64 (-1)) hA rfl (.cons (qk rfl) .nil) rfl ?_
   exact ⟨by rw [num_kind hs (by first | exact hb6' | (have h9 := hb6'; omega))]; rfl, hM.bel⟩
 · have hb6' := bne_eq_false_iff_eq.1 hb6
   refine qa (v := .bool false) hA rfl rfl rfl (qg rfl rfl (fun w => (jl w).trans (by rw [hb6]))) ?_
   intro a hA
   refine qf ?_
   refine hK5 _ _ ?_
   refine wp_cond_false (hA.ev rfl) ?_
   refine wp_skip ?_
   refine hK4 _ _ ?_
   refine wp_seq_k (fun K8 hK8 => ?_)
   refine wp_region_lit ?_
   refine qa (v := .pointer (some ⟨g2, 2, none⟩)) hA rfl rfl rfl (qi JcM_fld_30_2 rfl rfl) ?_
   intro a hA
   refine qa hA rfl rfl rfl (ja hM JcM_isS_26 rfl 0 rfl (cs := [.bool t.d.y.q.b1, .slice t.d.y.o1 t.d.y.q.t1.length t.d.y.c1, .slice t.d.y.o2 t.d.y.q.q1.length t.d.y.c2, .bool t.d.y.q.b2, .slice t.d.y.o3 t.d.y.q.t2.length t.d.y.c3, .slice t.d.y.o4 t.d.y.q.q2.length t.d.y.c4]) rfl rfl) ?_
   intro a hA
   refine qm hA rfl rfl rfl (qh rfl rfl (fun w => by kernel_rfl)) (rsmallQ_any (Nu.below (ok_of ht).num hM.bel) (ok_of ht).len) ?_
   rintro _ w9 ⟨rfl, hbs⟩
   replace hM := hM.call hbs
   refine ⟨_, rfl, ?_⟩
   intro a hA
   refine qa hA rfl rfl rfl (qe rfl) ?_
   intro a hA
   refine qa (v := .int .i64 ((zr t.d.y.q).1)) hA rfl rfl rfl (qn (vs := [.int .i64 ((zr t.d.y.q).1), .int .i64 ((zr t.d.y.q).2)]) rfl rfl) ?_
   intro a hA
   refine qa (v := .int .i64 ((zr t.d.y.q).2)) hA rfl rfl rfl (qn (vs := [.int .i64 ((zr t.d.y.q).1), .int .i64 ((zr t.d.y.q).2)]) rfl rfl) ?_
   intro a hA
   refine qa hA rfl rfl rfl (qb rfl) ?_
   intro a hA
   refine qa hA rfl rfl rfl (qb rfl) ?_
   intro a hA
   refine qf ?_
   refine hK8 _ _ ?_
   refine wp_seq_k (fun K10 hK10 => ?_)
   refine wp_seq_k (fun K11 hK11 => ?_)
   refine wp_region_lit ?_
   refine qa hA rfl rfl rfl (qe rfl) ?_
   intro a hA
   rcases Bool.eq_false_or_eq_true (((zr t.d.y.q).2 != 0)) with hb12 | hb12
   · have hb12' := bne_iff_ne.1 hb12
     refine qa (v := .bool true) hA rfl rfl rfl (qg rfl rfl (fun w => (jl w).trans (by rw [hb12]))) ?_
     intro a hA
     refine qa hA rfl rfl rfl (qe rfl) ?_
     intro a hA
     refine qj hA rfl rfl rfl ?_
     intro a hA
     refine qj hA rfl rfl rfl ?_
     intro a hA
     refine qa (v := .bool true) hA rfl rfl rfl (ql rfl rfl rfl rfl) ?_
     intro a hA
     refine qa hA rfl rfl rfl (qe rfl) ?_
     intro a hA
     refine qj hA rfl rfl rfl ?_
     intro a hA
     refine qj hA rfl rfl rfl ?_
     intro a hA
     refine qa (v := .bool true) hA rfl rfl rfl (ql rfl rfl rfl rfl) ?_
     intro a hA
     refine qf ?_
     refine hK11 _ _ ?_
     refine wp_cond_true (hA.ev rfl) ?_
     refine wp_seq_k (fun K13 hK13 => ?_)
     refine wp_region_lit ?_
     refine qa hA rfl rfl rfl (qb rfl) ?_
     intro a hA
     refine qf ?_
     refine hK13 _ _ ?_
     refine wp_ret ?_
     refine hret _ _ ?_
     refine za (v := .int .i64 (-1)) hA rfl (.cons (qk rfl) .nil) rfl ?_
     have hq9 : t.tr.q = t.d.y.q := by cases t; rw [Dt.tr_mk]; rfl
     exact ⟨by rw [show jc t.tr = none from by unfold jc vf; rw [hq9]; simp_all]; rfl, hM.bel⟩
   · have hb12' := bne_eq_false_iff_eq.1 hb12
     refine qa (v := .bool false) hA rfl rfl rfl (qg rfl rfl (fun w => (jl w).trans (by rw [hb12]))) ?_
     intro a hA
     refine qa hA rfl rfl rfl (qe rfl) ?_
     intro a hA
     refine qa hA rfl rfl rfl (qe rfl) ?_
     intro a hA
     rcases Bool.eq_false_or_eq_true (decide ((zr t.d.y.q).1 < 0)) with hb14 | hb14
     · have hb14' := of_decide_eq_true hb14
       refine qa (v := .bool true) hA rfl rfl rfl (qg rfl rfl (fun w => (zk w).trans (by rw [hb14]))) ?_
       intro a hA
       refine qa (v := .bool true) hA rfl rfl rfl (ql rfl rfl rfl rfl) ?_
       intro a hA
       refine qa hA rfl rfl rfl (qe rfl) ?_
       intro a hA
       refine qj hA rfl rfl rfl ?_
       intro a hA
       refine qj hA rfl rfl rfl ?_
       intro a hA
       refine qa (v := .bool true) hA rfl rfl rfl (ql rfl rfl rfl rfl) ?_
       intro a hA
       refine qf ?_
       refine hK11 _ _ ?_
       refine wp_cond_true (hA.ev rfl) ?_
       refine wp_seq_k (fun K15 hK15 => ?_)
       refine wp_region_lit ?_
       refine qa hA rfl rfl rfl (qb rfl) ?_
       intro a hA
       refine qf ?_
       refine hK15 _ _ ?_
       refine wp_ret ?_
       refine hret _ _ ?_
       refine za (v := .int .i64 (-1)) hA rfl (.cons (qk rfl) .nil) rfl ?_
       have hq9 : t.tr.q = t.d.y.q := by cases t; rw [Dt.tr_mk]; rfl
       exact ⟨by rw [show jc t.tr = none from by unfold jc vf; rw [hq9]; simp_all]; rfl, hM.bel⟩
     · have hb14' := of_decide_eq_false hb14
       refine qa (v := .bool false) hA rfl rfl rfl (qg rfl rfl (fun w => (zk w).trans (by rw [hb14]))) ?_
       intro a hA
       refine qa (v := .bool false) hA rfl rfl rfl (ql rfl rfl rfl rfl) ?_
       intro a hA
       refine qa hA rfl rfl rfl (qe rfl) ?_
       intro a hA
       refine qa hA rfl rfl rfl (qe rfl) ?_
       intro a hA
       rcases Bool.eq_false_or_eq_true (decide (2147483647 < (zr t.d.y.q).1)) with hb16 | hb16
       · have hb16' := of_decide_eq_true hb16
         refine qa (v := .bool true) hA rfl rfl rfl (qg rfl rfl (fun w => (jh w).trans (by rw [hb16]))) ?_
         intro a hA
         refine qa (v := .bool true) hA rfl rfl rfl (ql rfl rfl rfl rfl) ?_
         intro a hA
         refine qf ?_
         refine hK11 _ _ ?_
         refine wp_cond_true (hA.ev rfl) ?_
         refine wp_seq_k (fun K17 hK17 => ?_)
         refine wp_region_lit ?_
         refine qa hA rfl rfl rfl (qb rfl) ?_
         intro a hA
         refine qf ?_
         refine hK17 _ _ ?_
         refine wp_ret ?_
         refine hret _ _ ?_
         refine za (v := .int .i64 (-1)) hA rfl (.cons (qk rfl) .nil) rfl ?_
         have hq9 : t.tr.q = t.d.y.q := by cases t; rw [Dt.tr_mk]; rfl
         exact ⟨by rw [show jc t.tr = none from by unfold jc vf; rw [hq9]; simp_all]; rfl, hM.bel⟩
       · have hb16' := of_decide_eq_false hb16
         refine qa (v := .bool false) hA rfl rfl rfl (qg rfl rfl (fun w => (jh w).trans (by rw [hb16]))) ?_
         intro a hA
         refine qa (v := .bool false) hA rfl rfl rfl (ql rfl rfl rfl rfl) ?_
         intro a hA
         refine qf ?_
         refine hK11 _ _ ?_
         refine wp_cond_false (hA.ev rfl) ?_
         refine wp_skip ?_
         refine hK10 _ _ ?_
         refine wp_seq_k (fun K18 hK18 => ?_)
         refine wp_region_lit ?_
         refine qa hA rfl rfl rfl (qe rfl) ?_
         intro a hA
         refine qa hA rfl rfl rfl (qb rfl) ?_
         intro a hA
         refine qf ?_
         refine hK18 _ _ ?_
         refine wp_ret ?_
         refine hret _ _ ?_
         refine za (v := .int .i64 ((zr t.d.y.q).1)) hA rfl (.cons (qk rfl) .nil) rfl ?_
         have hq9 : t.tr.q = t.d.y.q := by cases t; rw [Dt.tr_mk]; rfl
         exact ⟨by rw [show jc t.tr = some (zr t.d.y.q).1 from by unfold jc vf; rw [hq9]; simp_all]; rfl, hM.bel⟩
theorem rparts_any {w0 w : World} {t : Dt} (h0 : Below w0.heap.size w0 w) (ht : t.rd w0) (hs : xl zp t.tr = true) (hb : t.tr.bulk ≤ 4000000) : Calls Tryz.prog 59 #[.agg (t.d.cells t.ts.length).toArray] w fun e w' => ∃ so' ca' xs, ∃ q : Dt, e = .returned (.tuple #[.slice so' (xs : List Dt).length ca', .agg (q.d.cells q.ts.length).toArray]) ∧ ((Its w0 t xs ∧ (q.d.k == 1) = (zw t.tr).isSome) ∧ q.rd w0) ∧ Mg w w' [.row 30 11 (.slice so' xs.length ca') xs.length (cellsOf xs)] := by
 have hM : Mg w w ([]) := Mg.start w
 refine qz (l := [(0, .agg (t.d.cells t.ts.length).toArray)]) Tryz.func59 rfl Tryz.ntmps59 rfl rfl ?_
 intro Q hret hnorm hP a hA
 refine wp_seq_k (fun K1 hK1 => ?_)
 refine wp_region_lit ?_
 refine jk (vs := (t.d.cells t.ts.length)) (t := 30) hA hM rfl rfl rfl (fun g => .pointer (some ⟨g, 0, none⟩)) (zg rfl rfl) (by decide) ?_
 intro g2 w3 hM a hA
 refine qa hA rfl rfl rfl (qb rfl) ?_
 intro a hA
 refine jk (vs := (xk.d.cells xk.ts.length)) (t := 30) hA hM rfl rfl rfl (fun g => .pointer (some ⟨g, 0, none⟩)) (zx (z := .agg (xk.d.cells xk.ts.length).toArray) (by kernel_rfl) rfl) (by decide) ?_
 intro g4 w5 hM a hA
 refine qf ?_
 refine hK1 _ _ ?_
 refine wp_seq_k (fun K6 hK6 => ?_)
 refine wp_region_lit ?_
 refine ks (e := 30) (sz := 11) (m := 0) (vs := cellsOf []) hA hM rfl rfl rfl (zt rfl (by kernel_rfl)) rfl rfl (.inl (by decide)) ?_
 intro g7 w8 hM a hA
 refine qa hA rfl rfl rfl (qb rfl) ?_
 intro a hA
 refine qf ?_
 refine hK6 _ _ ?_
 refine wp_seq_k (fun K9 hK9 => ?_)
 refine wp_block ?_
 refine jd (fun m_ a w1 => ∃ (p : Dt) (xs : List Dt) (so_ : Option Addr) (ca_ : Nat), m_ = 1 + p.tr.bulk ∧ (p.rd w0 ∧ xl zp p.tr = true ∧ ((∀ x ∈ xs, x.rd w0) ∧ (∀ x ∈ xs, xl zp x.tr = true) ∧ (∀ x ∈ xs, x.tr.bulk < t.tr.bulk)) ∧ t.tr = vj (xs.map Dt.tr) p.tr ∧ xs.length + p.tr.bulk ≤ t.tr.bulk) ∧ Sl a 22 [(0, .agg (t.d.cells t.ts.length).toArray), (1, .pointer (some ⟨g2, 0, none⟩)), (2, .slice none 0 0), (3, .pointer (some ⟨g4, 0, none⟩)), (4, .slice so_ xs.length ca_), (5, .slice (some ⟨g7, 0, none⟩) 0 0)] ∧ Mg w w1 (.row 30 11 (.slice so_ xs.length ca_) xs.length (cellsOf xs) :: .obj g4 (.cells (xk.d.cells xk.ts.length).toArray 30) :: .obj g2 (.cells (p.d.cells p.ts.length).toArray 30) :: [])) _ ⟨t, [], some ⟨g7, 0, none⟩, 0, rfl, ⟨ht, hs, ⟨(fun x h => by cases h), (fun x h => by cases h), (fun x h => by cases h)⟩, rfl, (by show 0 + t.tr.bulk ≤ t.tr.bulk; omega)⟩, hA.keep _ (by repeat' constructor), hM⟩ ?_
 clear hM hA
 rintro m_ a w10 ⟨p, xs, so_, ca_, rfl, hinv12, hA, hM⟩ K11 hK11
 obtain ⟨hp, hps, hxs, htl, hbx⟩ := hinv12
 refine wp_seq_k (fun K13 hK13 => ?_)
 refine wp_seq_k (fun K14 hK14 => ?_)
 refine wp_region_lit ?_
 refine qa (v := .pointer (some ⟨g2, 0, none⟩)) hA rfl rfl rfl (qi JcM_fld_30_0 rfl rfl) ?_
 intro a hA
 refine qa hA rfl rfl rfl (zl hM JcM_is1_3 rfl 2 rfl rfl) ?_
 intro a hA
 rcases Bool.eq_false_or_eq_true ((p.d.k == 8)) with hb15 | hb15
 · have hb15' := eq_of_beq hb15
   refine qa (v := .bool true) hA rfl rfl rfl (qg rfl rfl (fun w => (qx w).trans (by rw [hb15]))) ?_
   intro a hA
   refine qf ?_
   refine hK14 _ _ ?_
   refine wp_cond_true (hA.ev rfl) ?_
   refine wp_skip ?_
   refine hK13 _ _ ?_
   refine wp_block ?_
   refine wp_seq_k (fun K16 hK16 => ?_)
   have l2p := (pair_at hps hb15').1
   have hbp := yh p
   obtain ⟨p0, bp0, op0, ip0, mp0, rp0_, lp0, Hp0⟩ := kidT hp (i := 0) (by omega)
   obtain ⟨p1, bp1, op1, ip1, mp1, rp1_, lp1, Hp1⟩ := kidT hp (i := 1) (by omega)
   replace Hp0 := Hp0.below h0
   replace Hp1 := Hp1.below h0
   refine wp_region_lit ?_
   refine qa hA rfl rfl rfl (qe rfl) ?_
   intro a hA
   refine qa (v := .pointer (some ⟨g2, 10, none⟩)) hA rfl rfl rfl (qi JcM_fld_30_5 rfl rfl) ?_
   intro a hA
   refine qa hA rfl rfl rfl (zl hM JcM_is1_28 rfl 2 rfl rfl) ?_
   intro a hA
   refine qa (v := .pointer (some ⟨bp0, op0 + 0 * 11, none⟩)) hA rfl rfl rfl (zh (k := 0) Tryz.underlying28 (by kernel_rfl) rfl rfl rfl lp0 (by omega)) ?_
   intro a hA
   refine qa hA rfl rfl rfl (jg hM Hp0 JcM_isS_30 rfl rfl) ?_
   intro a hA
   refine ks (e := 30) (sz := 11) (m := 1) (vs := cellsOf [p0]) hA hM rfl rfl rfl (zt rfl (by kernel_rfl)) rfl rfl (.inl (by decide)) ?_
   intro g17 w18 hM a hA
   refine kd (e := 30) (sz := 11) (k := 1) (q := xs.length) (m := 1) (xs := cellsOf xs) (news := cellsOf [p0]) (L' := fun v19 => (.row 30 11 (.slice (some ⟨g17, 0, none⟩) 1 1) 1 (cellsOf [p0]) :: .row 30 11 (v19) (xs.length + 1) (cellsOf xs ++ cellsOf [p0]) :: .obj g4 (.cells (xk.d.cells xk.ts.length).toArray 30) :: .obj g2 (.cells (p.d.cells p.ts.length).toArray 30) :: [])) hA rfl rfl rfl (qch (z := .agg #[.int .i64 0, .int .i64 0, .bool false, .slice none 0 0, .slice none 0 0, .bool false, .slice none 0 0, .slice none 0 0, .string ⟨#[]⟩, .slice none 0 0, .slice none 0 0]) (sz := 11) (by_ := 192) Tryz.underlying28 (by kernel_rfl) rfl rfl rfl hM 1 rfl rfl rfl rfl (kw (hM.has 0 rfl)) (qea [p0]) (by omega)) (fun _ => rfl) ?_
   intro v19 w20 hM a hA
   replace hM : Mg w w20 (.row 30 11 (.slice (some ⟨g17, 0, none⟩) 1 1) 1 (cellsOf [p0]) :: .row 30 11 (v19) ((xs ++ [p0]).length) (cellsOf (xs ++ [p0])) :: .obj g4 (.cells (xk.d.cells xk.ts.length).toArray 30) :: .obj g2 (.cells (p.d.cells p.ts.length).toArray 30) :: []) := by
     rw [qaa, List.length_append]; exact hM
   obtain ⟨so21, ca22, rfl⟩ := qab (hM.has 1 rfl)
   refine qa hA rfl rfl rfl (qb rfl) ?_
   intro a hA
   refine qf ?_
   refine hK16 _ _ ?_
   refine wp_region_lit ?_
   refine qa (v := .pointer (some ⟨g2, 10, none⟩)) hA rfl rfl rfl (qi JcM_fld_30_5 rfl rfl) ?_
   intro a hA
   refine qa hA rfl rfl rfl (zl hM JcM_is1_28 rfl 3 rfl rfl) ?_
   intro a hA
   refine qa (v := .pointer (some ⟨bp1, op1 + 1 * 11, none⟩)) hA rfl rfl rfl (zh (k := 1) Tryz.underlying28 (by kernel_rfl) rfl rfl rfl lp1 (by omega)) ?_
   intro a hA
   refine qa hA rfl rfl rfl (jg hM Hp1 JcM_isS_30 rfl rfl) ?_
   intro a hA
   refine jb (us := (p1.d.cells p1.ts.length)) (L' := (.row 30 11 (.slice (some ⟨g17, 0, none⟩) 1 1) 1 (cellsOf [p0]) :: .row 30 11 (.slice so21 ((xs ++ [p0]).length) ca22) ((xs ++ [p0]).length) (cellsOf (xs ++ [p0])) :: .obj g4 (.cells (xk.d.cells xk.ts.length).toArray 30) :: .obj g2 (.cells (p1.d.cells p1.ts.length).toArray 30) :: [])) hA hM rfl rfl (zu rfl rfl rfl (by kernel_rfl) hM 3 rfl rfl rfl) 3 rfl rfl rfl ?_
   intro w23 hM
   refine qf ?_
   replace hM := hM.sub (cN (cC (cC (cC (.refl _)))))
   have h7 := bulkT mp0
   have h8 := bulkT mp1
   refine hK11 _ _ _ (by have := bulkT mp1; omega) ⟨p1, xs ++ [p0], so21, ca22, rfl, ⟨rp1_, (qci hps).2 _ mp1, ⟨uf hxs.1 rp0_, uf hxs.2.1 ((qci hps).2 _ mp0), uf hxs.2.2 (by omega)⟩, link_step htl hps hb15' ip0 ip1, by rw [List.length_append]; simp only [List.length_cons, List.length_nil]; omega⟩, hA.keep _ (by repeat' constructor), hM⟩
 · have hb15' := ne_of_beq_false hb15
   refine qa (v := .bool false) hA rfl rfl rfl (qg rfl rfl (fun w => (qx w).trans (by rw [hb15]))) ?_
   intro a hA
   refine qf ?_
   refine hK14 _ _ ?_
   refine wp_cond_false (hA.ev rfl) ?_
   refine wp_exit ?_
   refine hK9 _ _ ?_
   refine wp_seq_k (fun K24 hK24 => ?_)
   refine vd (S := fun w1 => Mg w w1 (.obj g2 (.cells (p.d.cells p.ts.length).toArray 30) :: [])) (by kernel_rfl) ?_
   replace hM := hM.drew
   refine zf hA 0 rfl rfl rfl rfl hP (hM.sub (cN (cN (cC (List.nil_sublist _))))) (fun w1 hM => qe rfl) ?_
   intro a hA
   refine zf hA 1 rfl rfl rfl rfl hP (hM.sub (cN (cN (cC (List.nil_sublist _))))) (fun w1 hM => ja hM JcM_isS_30 rfl 0 rfl (cs := (p.d.cells p.ts.length)) rfl rfl) ?_
   intro a hA
   refine zf hA 2 rfl rfl rfl rfl hP (hM.sub (cN (cN (cC (List.nil_sublist _))))) (fun w1 hM => qb rfl) ?_
   intro a hA
   refine xn (by kernel_rfl) (g_store (us := (p.d.cells p.ts.length)) (L' := (.row 30 11 (.slice so_ xs.length ca_) xs.length (cellsOf xs) :: .obj g4 (.cells (p.d.cells p.ts.length).toArray 30) :: .obj g2 (.cells (p.d.cells p.ts.length).toArray 30) :: [])) hA hM 3 rfl rfl rfl (zu rfl rfl rfl (by kernel_rfl) hM 1 rfl rfl rfl) 1 rfl rfl rfl ?_)
   intro w25 hM
   refine ⟨(hM.sub (cN (cN (cC (List.nil_sublist _))))), ?_⟩
   refine xp (by kernel_rfl) ?_
   refine hK24 _ _ ?_
   refine wp_ret ?_
   refine hret _ _ ?_
   refine za (v := .tuple #[.slice so_ xs.length ca_, .agg (p.d.cells p.ts.length).toArray]) hA rfl (.cons (qk rfl) (.cons (qah hM JcM_isS_30 rfl 1 rfl (cs := [.int .i64 p.d.k, .int .i64 p.d.n, .bool p.d.y.q.b1, .slice p.d.y.o1 p.d.y.q.t1.length p.d.y.c1, .slice p.d.y.o2 p.d.y.q.q1.length p.d.y.c2, .bool p.d.y.q.b2, .slice p.d.y.o3 p.d.y.q.t2.length p.d.y.c3, .slice p.d.y.o4 p.d.y.q.q2.length p.d.y.c4, .string p.d.s, .slice p.d.ro p.d.rl.length p.d.rc, .slice p.d.lo p.ts.length p.d.lc]) rfl rfl) .nil)) rfl ?_
   replace hM := hM.sub (cC (cN (cN (.refl _))))
   exact ⟨_, _, xs, p, rfl, ⟨its_end htl hps hb15' hxs.1 hxs.2.1 hxs.2.2 (by omega), hp⟩, hM⟩
theorem ka {w0 w : World} {t : Dt} (h0 : Below w0.heap.size w0 w) (ht : t.rd w0) (hs : xl zp t.tr = true) (hb : t.tr.bulk ≤ 4000000) : Calls Tryz.prog 24 #[.agg (t.d.cells t.ts.length).toArray] w fun e w' => ∃ so' ca' xs, e = .returned (.tuple #[.slice so' (xs : List Dt).length ca', .bool (zw t.tr).isSome]) ∧ Its w0 t xs ∧ Mg w w' [.row 30 11 (.slice so' xs.length ca') xs.length (cellsOf xs)] := by
 have hM : Mg w w ([]) := Mg.start w
 refine qz (l := [(0, .agg (t.d.cells t.ts.length).toArray)]) Tryz.func24 rfl Tryz.ntmps24 rfl rfl ?_
 intro Q hret hnorm hP a hA
 refine wp_seq_k (fun K1 hK1 => ?_)
 refine wp_region_lit ?_
 refine jk (vs := (t.d.cells t.ts.length)) (t := 30) hA hM rfl rfl rfl (fun g => .pointer (some ⟨g, 0, none⟩)) (zg rfl rfl) (by decide) ?_
 intro g2 w3 hM a hA
 refine qa hA rfl rfl rfl (qb rfl) ?_
 intro a hA
 refine qa hA rfl rfl rfl (qb rfl) ?_
 intro a hA
 refine qf ?_
 refine hK1 _ _ ?_
 refine wp_seq_k (fun K4 hK4 => ?_)
 refine wp_region_lit ?_
 refine qa hA rfl rfl rfl (ja hM JcM_isS_30 rfl 0 rfl (cs := (t.d.cells t.ts.length)) rfl rfl) ?_
 intro a hA
 refine qm hA rfl rfl rfl (qh rfl rfl (fun w => by kernel_rfl)) (rparts_any (h0.trans (hM.bel.mono h0.size)) ht hs hb) ?_
 rintro _ w8 ⟨so5, ca6, xs, q, rfl, ⟨⟨hIt, hq1⟩, hqr⟩, hM7⟩
 replace hM : Mg w w8 (.row 30 11 (.slice so5 xs.length ca6) xs.length (cellsOf xs) :: .obj g2 (.cells (t.d.cells t.ts.length).toArray 30) :: []) := (hM.both hM7 (qw (by simp) (qy zd)) (qw (by simp) (qy zd)))
 refine ⟨_, rfl, ?_⟩
 intro a hA
 refine qa hA rfl rfl rfl (qe rfl) ?_
 intro a hA
 refine qa (v := .slice so5 xs.length ca6) hA rfl rfl rfl (qn (vs := [.slice so5 xs.length ca6, .agg (q.d.cells q.ts.length).toArray]) rfl rfl) ?_
 intro a hA
 refine qa (v := .agg (q.d.cells q.ts.length).toArray) hA rfl rfl rfl (qn (vs := [.slice so5 xs.length ca6, .agg (q.d.cells q.ts.length).toArray]) rfl rfl) ?_
 intro a hA
 refine jk (vs := (xk.d.cells xk.ts.length)) (t := 30) hA hM rfl rfl rfl (fun g => .pointer (some ⟨g, 0, none⟩)) (zx (z := .agg (xk.d.cells xk.ts.length).toArray) (by kernel_rfl) rfl) (by decide) ?_
 intro g9 w10 hM a hA
 refine qa hA rfl rfl rfl (qb rfl) ?_
 intro a hA
 refine jb (us := (q.d.cells q.ts.length)) (L' := (.obj g9 (.cells (q.d.cells q.ts.length).toArray 30) :: .row 30 11 (.slice so5 xs.length ca6) xs.length (cellsOf xs) :: .obj g2 (.cells (t.d.cells t.ts.length).toArray 30) :: [])) hA hM rfl rfl (zu rfl rfl rfl (by kernel_rfl) hM 0 rfl rfl rfl) 0 rfl rfl rfl ?_
 intro w11 hM
 refine qf ?_
 refine hK4 _ _ ?_
 refine wp_seq_k (fun K12 hK12 => ?_)
 refine vd (S := fun w1 => Mg w w1 (.obj g9 (.cells (q.d.cells q.ts.length).toArray 30) :: [])) (by kernel_rfl) ?_
 replace hM := hM.drew
 refine zf hA 0 rfl rfl rfl rfl hP (hM.sub (cC (cN (cN (List.nil_sublist _))))) (fun w1 hM => qe rfl) ?_
 intro a hA
 refine zf (v := .pointer (some ⟨g9, 0, none⟩)) hA 1 rfl rfl rfl rfl hP (hM.sub (cC (cN (cN (List.nil_sublist _))))) (fun w1 hM => qi JcM_fld_30_0 rfl rfl) ?_
 intro a hA
 refine zf hA 2 rfl rfl rfl rfl hP (hM.sub (cC (cN (cN (List.nil_sublist _))))) (fun w1 hM => zl hM JcM_is1_3 rfl 0 rfl rfl) ?_
 intro a hA
 refine zf (v := .bool ((q.d.k == 1))) hA 3 rfl rfl rfl rfl hP (hM.sub (cC (cN (cN (List.nil_sublist _))))) (fun w1 hM => qg rfl rfl qx) ?_
 intro a hA
 refine zf hA 4 rfl rfl rfl rfl hP (hM.sub (cC (cN (cN (List.nil_sublist _))))) (fun w1 hM => qb rfl) ?_
 intro a hA
 refine zf hA 5 rfl rfl rfl rfl hP (hM.sub (cC (cN (cN (List.nil_sublist _))))) (fun w1 hM => qb rfl) ?_
 intro a hA
 refine xp (by kernel_rfl) ?_
 refine hK12 _ _ ?_
 refine wp_ret ?_
 refine hret _ _ ?_
 refine za (v := .tuple #[.slice so5 xs.length ca6, .bool ((q.d.k == 1))]) hA rfl (.cons (qk rfl) (.cons (qk rfl) .nil)) rfl ?_
 replace hM := hM.sub (cN (cC (cN (.refl _))))
 exact ⟨_, _, xs, by rw [hq1], hIt, hM⟩
theorem rword_any {w0 w : World} {t : Dt} (h0 : Below w0.heap.size w0 w) (ht : t.rd w0) (hs : xl zp t.tr = true) (hb : t.tr.bulk ≤ 4000000) : Calls Tryz.prog 25 #[.agg (t.d.cells t.ts.length).toArray] w fun e w' => e = .returned (.string (ku t.tr)) ∧ Below w.heap.size w w' := by
 have hM : Mg w w ([]) := Mg.start w
 refine qz (l := [(0, .agg (t.d.cells t.ts.length).toArray)]) Tryz.func25 rfl Tryz.ntmps25 rfl rfl ?_
 intro Q hret hnorm hP a hA
 refine wp_seq_k (fun K1 hK1 => ?_)
 refine wp_region_lit ?_
 refine jk (vs := (t.d.cells t.ts.length)) (t := 30) hA hM rfl rfl rfl (fun g => .pointer (some ⟨g, 0, none⟩)) (zg rfl rfl) (by decide) ?_
 intro g2 w3 hM a hA
 refine qa hA rfl rfl rfl (qb rfl) ?_
 intro a hA
 refine qf ?_
 refine hK1 _ _ ?_
 refine wp_seq_k (fun K4 hK4 => ?_)
 refine wp_region_lit ?_
 refine qa hA rfl rfl rfl (ja hM JcM_isS_30 rfl 0 rfl (cs := (t.d.cells t.ts.length)) rfl rfl) ?_
 intro a hA
 rcases Bool.eq_false_or_eq_true ((zw t.tr).isSome) with hb5 | hb5
 · refine qm hA rfl rfl rfl (qh rfl rfl (fun w => by kernel_rfl)) ((hb5 ▸ ka (h0.trans (hM.bel.mono h0.size)) ht hs (by omega))) ?_
   rintro _ w9 ⟨so6, ca7, xs, rfl, hIt, hM8⟩
   have hle9 := hIt.le
   replace hM : Mg w w9 (.row 30 11 (.slice so6 xs.length ca7) xs.length (cellsOf xs) :: .obj g2 (.cells (t.d.cells t.ts.length).toArray 30) :: []) := (hM.both hM8 (qw (by simp) (qy zd)) (qw (by simp) (qy zd)))
   refine ⟨_, rfl, ?_⟩
   intro a hA
   refine qa hA rfl rfl rfl (qe rfl) ?_
   intro a hA
   refine qa (v := .slice so6 xs.length ca7) hA rfl rfl rfl (qn (vs := [.slice so6 xs.length ca7, .bool true]) rfl rfl) ?_
   intro a hA
   refine qa (v := .bool true) hA rfl rfl rfl (qn (vs := [.slice so6 xs.length ca7, .bool true]) rfl rfl) ?_
   intro a hA
   refine qa hA rfl rfl rfl (qb rfl) ?_
   intro a hA
   refine qa hA rfl rfl rfl (qb rfl) ?_
   intro a hA
   refine qf ?_
   refine hK4 _ _ ?_
   refine wp_seq_k (fun K10 hK10 => ?_)
   refine wp_seq_k (fun K11 hK11 => ?_)
   refine wp_region_lit ?_
   refine qa hA rfl rfl rfl (qe rfl) ?_
   intro a hA
   refine qa (v := .bool false) hA rfl rfl rfl (qp rfl qt) ?_
   intro a hA
   refine qa hA rfl rfl rfl (qe rfl) ?_
   intro a hA
   refine qa hA rfl rfl rfl (qe rfl) ?_
   intro a hA
   refine qa (v := .int .i64 (((xs.length : Nat) : Int))) hA rfl rfl rfl (zb Tryz.underlying28 rfl) ?_
   intro a hA
   rcases Bool.eq_false_or_eq_true ((((xs.length : Nat) : Int) == 0)) with hb12 | hb12
   · have hb12' := eq_of_beq hb12
     refine qa (v := .bool true) hA rfl rfl rfl (qg rfl rfl (fun w => (qx w).trans (by rw [hb12]))) ?_
     intro a hA
     refine qa (v := .bool true) hA rfl rfl rfl (ql rfl rfl rfl rfl) ?_
     intro a hA
     refine qa hA rfl rfl rfl (qe rfl) ?_
     intro a hA
     refine qj hA rfl rfl rfl ?_
     intro a hA
     refine qj hA rfl rfl rfl ?_
     intro a hA
     refine qj hA rfl rfl rfl ?_
     intro a hA
     refine qj hA rfl rfl rfl ?_
     intro a hA
     refine qj hA rfl rfl rfl ?_
     intro a hA
     refine qa (v := .bool true) hA rfl rfl rfl (ql rfl rfl rfl rfl) ?_
     intro a hA
     refine qf ?_
     refine hK11 _ _ ?_
     refine wp_cond_true (hA.ev rfl) ?_
     refine wp_seq_k (fun K13 hK13 => ?_)
     refine wp_region_lit ?_
     refine qa hA rfl rfl rfl (qb rfl) ?_
     intro a hA
     refine qf ?_
     refine hK13 _ _ ?_
     refine wp_ret ?_
     refine hret _ _ ?_
     refine za (v := .string (⟨#[]⟩)) hA rfl (.cons (qk rfl) .nil) rfl ?_
     have ha9 := hIt.as hb5
     exact ⟨by rw [qkj ha9 (qia (by omega))], hM.bel⟩
   · have hb12' := ne_of_beq_false hb12
     refine qa (v := .bool false) hA rfl rfl rfl (qg rfl rfl (fun w => (qx w).trans (by rw [hb12]))) ?_
     intro a hA
     refine qa (v := .bool false) hA rfl rfl rfl (ql rfl rfl rfl rfl) ?_
     intro a hA
     refine qa hA rfl rfl rfl (qe rfl) ?_
     intro a hA
     refine qa hA rfl rfl rfl (qe rfl) ?_
     intro a hA
     obtain ⟨th, hith⟩ : ∃ t, xs[0]? = some t := ⟨_, List.getElem?_eq_getElem (by omega)⟩
     have hlth := (List.getElem?_eq_some_iff.1 hith).1
     have mth := List.mem_of_getElem? hith
     obtain ⟨bk14, ok15, lk16, Hk17⟩ := vg (jq (hM.has 0 rfl)).1 (fun x hx => Dt.keep (h0.trans (hM.bel.mono h0.size)) _ (hIt.rd x hx)) hith
     refine qa (v := .pointer (some ⟨bk14, ok15 + 0 * 11, none⟩)) hA rfl rfl rfl (zh (k := 0) Tryz.underlying28 (by kernel_rfl) rfl rfl (by first | rfl | omega) lk16 hlth) ?_
     intro a hA
     refine qa (v := .pointer (some ⟨bk14, ok15 + 0 * 11, none⟩)) hA rfl rfl rfl (qi JcM_fld_30_0 rfl rfl) ?_
     intro a hA
     refine qa hA rfl rfl rfl (vl (j := 0) (Mg.start _) Hk17 JcM_is1_3 rfl rfl rfl) ?_
     intro a hA
     rcases Bool.eq_false_or_eq_true ((th.d.k != 6)) with hb18 | hb18
     · have hb18' := bne_iff_ne.1 hb18
       refine qa (v := .bool true) hA rfl rfl rfl (qg rfl rfl (fun w => (jl w).trans (by rw [hb18]))) ?_
       intro a hA
       refine qa (v := .bool true) hA rfl rfl rfl (ql rfl rfl rfl rfl) ?_
       intro a hA
       refine qf ?_
       refine hK11 _ _ ?_
       refine wp_cond_true (hA.ev rfl) ?_
       refine wp_seq_k (fun K19 hK19 => ?_)
       refine wp_region_lit ?_
       refine qa hA rfl rfl rfl (qb rfl) ?_
       intro a hA
       refine qf ?_
       refine hK19 _ _ ?_
       refine wp_ret ?_
       refine hret _ _ ?_
       refine za (v := .string (⟨#[]⟩)) hA rfl (.cons (qk rfl) .nil) rfl ?_
       have ha9 := hIt.as hb5
       exact ⟨by rw [qkj ha9 (qhj hith (by first | exact hb18' | (have h9 := hb18'; omega)))], hM.bel⟩
     · have hb18' := bne_eq_false_iff_eq.1 hb18
       refine qa (v := .bool false) hA rfl rfl rfl (qg rfl rfl (fun w => (jl w).trans (by rw [hb18]))) ?_
       intro a hA
       refine qa (v := .bool false) hA rfl rfl rfl (ql rfl rfl rfl rfl) ?_
       intro a hA
       refine qf ?_
       refine hK11 _ _ ?_
       refine wp_cond_false (hA.ev rfl) ?_
       refine wp_skip ?_
       refine hK10 _ _ ?_
       refine wp_seq_k (fun K20 hK20 => ?_)
       refine wp_region_lit ?_
       refine qa hA rfl rfl rfl (qe rfl) ?_
       intro a hA
       obtain ⟨bk21, ok22, lk23, Hk24⟩ := vg (jq (hM.has 0 rfl)).1 (fun x hx => Dt.keep (h0.trans (hM.bel.mono h0.size)) _ (hIt.rd x hx)) hith
       refine qa (v := .pointer (some ⟨bk21, ok22 + 0 * 11, none⟩)) hA rfl rfl rfl (zh (k := 0) Tryz.underlying28 (by kernel_rfl) rfl rfl (by first | rfl | omega) lk23 hlth) ?_
       intro a hA
       refine qa (v := .pointer (some ⟨bk21, ok22 + 0 * 11 + 8, none⟩)) hA rfl rfl rfl (qi JcM_fld_30_3 rfl rfl) ?_
       intro a hA
       refine qa hA rfl rfl rfl (vl (j := 8) (Mg.start _) Hk24 JcM_is1_9 rfl rfl rfl) ?_
       intro a hA
       refine qa hA rfl rfl rfl (qb rfl) ?_
       intro a hA
       refine qf ?_
       refine hK20 _ _ ?_
       refine wp_ret ?_
       refine hret _ _ ?_
       refine za (v := .string th.d.s) hA rfl (.cons (qk rfl) .nil) rfl ?_
       have ha9 := hIt.as hb5
       exact ⟨by rw [yi ha9 (xu hith (by have h9 := hb18'; omega)), ze hith], hM.bel⟩
 · refine qm hA rfl rfl rfl (qh rfl rfl (fun w => by kernel_rfl)) ((hb5 ▸ ka (h0.trans (hM.bel.mono h0.size)) ht hs (by omega))) ?_
   rintro _ w28 ⟨so25, ca26, xs, rfl, hIt, hM27⟩
   have hle9 := hIt.le
   replace hM : Mg w w28 (.row 30 11 (.slice so25 xs.length ca26) xs.length (cellsOf xs) :: .obj g2 (.cells (t.d.cells t.ts.length).toArray 30) :: []) := (hM.both hM27 (qw (by simp) (qy zd)) (qw (by simp) (qy zd)))
   refine ⟨_, rfl, ?_⟩
   intro a hA
   refine qa hA rfl rfl rfl (qe rfl) ?_
   intro a hA
   refine qa (v := .slice so25 xs.length ca26) hA rfl rfl rfl (qn (vs := [.slice so25 xs.length ca26, .bool false]) rfl rfl) ?_
   intro a hA
   refine qa (v := .bool false) hA rfl rfl rfl (qn (vs := [.slice so25 xs.length ca26, .bool false]) rfl rfl) ?_
   intro a hA
   refine qa hA rfl rfl rfl (qb rfl) ?_
   intro a hA
   refine qa hA rfl rfl rfl (qb rfl) ?_
   intro a hA
   refine qf ?_
   refine hK4 _ _ ?_
   refine wp_seq_k (fun K29 hK29 => ?_)
   refine wp_seq_k (fun K30 hK30 => ?_)
   refine wp_region_lit ?_
   refine qa hA rfl rfl rfl (qe rfl) ?_
   intro a hA
   refine qa (v := .bool true) hA rfl rfl rfl (qp rfl qt) ?_
   intro a hA
   refine qa hA rfl rfl rfl (qe rfl) ?_
   intro a hA
   refine qj hA rfl rfl rfl ?_
   intro a hA
   refine qj hA rfl rfl rfl ?_
   intro a hA
   refine qj hA rfl rfl rfl ?_
   intro a hA
   refine qa (v := .bool true) hA rfl rfl rfl (ql rfl rfl rfl rfl) ?_
   intro a hA
   refine qa hA rfl rfl rfl (qe rfl) ?_
   intro a hA
   refine qj hA rfl rfl rfl ?_
   intro a hA
   refine qj hA rfl rfl rfl ?_
   intro a hA
   refine qj hA rfl rfl rfl ?_
   intro a hA
   refine qj hA rfl rfl rfl ?_
   intro a hA
   refine qj hA rfl rfl rfl ?_
   intro a hA
   refine qa (v := .bool true) hA rfl rfl rfl (ql rfl rfl rfl rfl) ?_
   intro a hA
   refine qf ?_
   refine hK30 _ _ ?_
   refine wp_cond_true (hA.ev rfl) ?_
   refine wp_seq_k (fun K31 hK31 => ?_)
   refine wp_region_lit ?_
   refine qa hA rfl rfl rfl (qb rfl) ?_
   intro a hA
   refine qf ?_
   refine hK31 _ _ ?_
   refine wp_ret ?_
   refine hret _ _ ?_
   refine za (v := .string (⟨#[]⟩)) hA rfl (.cons (qk rfl) .nil) rfl ?_
   exact ⟨by rw [word_non (vm hb5)], hM.bel⟩
theorem rgood_any {w : World} {l : List Int} {sv : Option Addr} {cv : Nat} (hv : Rc w sv (izC l)) (hll : l.length ≤ 2000000) : Calls Tryz.prog 40 #[.slice sv l.length cv] w fun e w' => e = .returned (.bool (!l.any vf)) ∧ Below w.heap.size w w' := by
 have hM : Mg w w ([]) := Mg.start w
 refine qz (l := [(0, .slice sv l.length cv)]) Tryz.func40 rfl Tryz.ntmps40 rfl rfl ?_
 intro Q hret hnorm hP a hA
 refine wp_seq_k (fun K1 hK1 => ?_)
 refine wp_region_lit ?_
 refine qa hA rfl rfl rfl (qb rfl) ?_
 intro a hA
 refine qf ?_
 refine hK1 _ _ ?_
 refine wp_seq_k (fun K2 hK2 => ?_)
 refine wp_seq_k (fun K3 hK3 => ?_)
 refine wp_region_lit ?_
 refine qa hA rfl rfl rfl (qb rfl) ?_
 intro a hA
 refine qf ?_
 refine hK3 _ _ ?_
 refine wp_block ?_
 refine jd (fun m_ a w1 => ∃ (i : Nat), m_ = 1 + (l.length - i) ∧ (i ≤ l.length ∧ ∀ (j : Nat) z, j < i → l[j]? = some z → vf z = false) ∧ Sl a 22 [(0, .slice sv l.length cv), (3, .int .i64 (((i : Nat) : Int)))] ∧ Mg w w1 ([])) _ ⟨0, rfl, ⟨Nat.zero_le _, fun j z h => absurd h (Nat.not_lt_zero _)⟩, hA.keep _ ⟨rfl, rfl, trivial⟩, hM⟩ ?_
 clear hM hA
 rintro m_ a w4 ⟨i, rfl, hinv6, hA, hM⟩ K5 hK5
 obtain ⟨hi0, hin9⟩ := hinv6
 refine wp_seq_k (fun K7 hK7 => ?_)
 refine wp_seq_k (fun K8 hK8 => ?_)
 refine wp_region_lit ?_
 refine qa hA rfl rfl rfl (qe rfl) ?_
 intro a hA
 refine qa hA rfl rfl rfl (qe rfl) ?_
 intro a hA
 refine qa (v := .int .i64 (((l.length : Nat) : Int))) hA rfl rfl rfl (zb Tryz.underlying38 rfl) ?_
 intro a hA
 rcases Bool.eq_false_or_eq_true (decide (((i : Nat) : Int) < ((l.length : Nat) : Int))) with hb9 | hb9
 · have hb9' := of_decide_eq_true hb9
   refine qa (v := .bool true) hA rfl rfl rfl (qg rfl rfl (fun w => (zk w).trans (by rw [hb9]))) ?_
   intro a hA
   refine qf ?_
   refine hK8 _ _ ?_
   refine wp_cond_true (hA.ev rfl) ?_
   refine wp_skip ?_
   refine hK7 _ _ ?_
   refine wp_seq_k (fun K10 hK10 => ?_)
   refine wp_block ?_
   refine wp_seq_k (fun K11 hK11 => ?_)
   refine wp_region_lit ?_
   refine qa hA rfl rfl rfl (qe rfl) ?_
   intro a hA
   refine qa hA rfl rfl rfl (qe rfl) ?_
   intro a hA
   obtain ⟨bx12, ox13, ux14, hs15, hc16, hi17⟩ := hv.at1 (i := i) (by (try rw [uq]); omega)
   obtain ⟨z9, hz9, rfl⟩ := izC_at hi17
   refine qa (v := .pointer (some ⟨bx12, ox13 + i, none⟩)) hA rfl rfl rfl (zi (k := i) Tryz.underlying38 (by kernel_rfl) rfl rfl (by first | rfl | omega) hs15 (by omega)) ?_
   intro a hA
   refine qa hA rfl rfl rfl (js hM hc16 JcM_is1_3 rfl) ?_
   intro a hA
   rcases Bool.eq_false_or_eq_true (decide (z9 < 0)) with hb18 | hb18
   · have hb18' := of_decide_eq_true hb18
     refine qa (v := .bool true) hA rfl rfl rfl (qg rfl rfl (fun w => (zk w).trans (by rw [hb18]))) ?_
     intro a hA
     refine qa hA rfl rfl rfl (qe rfl) ?_
     intro a hA
     refine qj hA rfl rfl rfl ?_
     intro a hA
     refine qj hA rfl rfl rfl ?_
     intro a hA
     refine qj hA rfl rfl rfl ?_
     intro a hA
     refine qj hA rfl rfl rfl ?_
     intro a hA
     refine qj hA rfl rfl rfl ?_
     intro a hA
     refine qa (v := .bool true) hA rfl rfl rfl (ql rfl rfl rfl rfl) ?_
     intro a hA
     refine qf ?_
     refine hK11 _ _ ?_
     refine wp_cond_true (hA.ev rfl) ?_
     refine wp_seq_k (fun K19 hK19 => ?_)
     refine wp_region_lit ?_
     refine qa hA rfl rfl rfl (qb rfl) ?_
     intro a hA
     refine qf ?_
     refine hK19 _ _ ?_
     refine wp_ret ?_
     refine hret _ _ ?_
     refine za (v := .bool false) hA rfl (.cons (qk rfl) .nil) rfl ?_
     exact ⟨by rw [show l.any vf = true from List.any_eq_true.2 ⟨z9, List.mem_of_getElem? hz9, by unfold vf; simp_all⟩]; rfl, hM.bel⟩
   · have hb18' := of_decide_eq_false hb18
     refine qa (v := .bool false) hA rfl rfl rfl (qg rfl rfl (fun w => (zk w).trans (by rw [hb18]))) ?_
     intro a hA
     refine qa hA rfl rfl rfl (qe rfl) ?_
     intro a hA
     refine qa hA rfl rfl rfl (qe rfl) ?_
     intro a hA
     refine qa hA rfl rfl rfl (qe rfl) ?_
     intro a hA
     refine qa (v := .pointer (some ⟨bx12, ox13 + i, none⟩)) hA rfl rfl rfl (zi (k := i) Tryz.underlying38 (by kernel_rfl) rfl rfl (by first | rfl | omega) hs15 (by omega)) ?_
     intro a hA
     refine qa hA rfl rfl rfl (js hM hc16 JcM_is1_3 rfl) ?_
     intro a hA
     rcases Bool.eq_false_or_eq_true (decide (2147483647 < z9)) with hb20 | hb20
     · have hb20' := of_decide_eq_true hb20
       refine qa (v := .bool true) hA rfl rfl rfl (qg rfl rfl (fun w => (jh w).trans (by rw [hb20]))) ?_
       intro a hA
       refine qa (v := .bool true) hA rfl rfl rfl (ql rfl rfl rfl rfl) ?_
       intro a hA
       refine qf ?_
       refine hK11 _ _ ?_
       refine wp_cond_true (hA.ev rfl) ?_
       refine wp_seq_k (fun K21 hK21 => ?_)
       refine wp_region_lit ?_
       refine qa hA rfl rfl rfl (qb rfl) ?_
       intro a hA
       refine qf ?_
       refine hK21 _ _ ?_
       refine wp_ret ?_
       refine hret _ _ ?_
       refine za (v := .bool false) hA rfl (.cons (qk rfl) .nil) rfl ?_
       exact ⟨by rw [show l.any vf = true from List.any_eq_true.2 ⟨z9, List.mem_of_getElem? hz9, by unfold vf; simp_all⟩]; rfl, hM.bel⟩
     · have hb20' := of_decide_eq_false hb20
       refine qa (v := .bool false) hA rfl rfl rfl (qg rfl rfl (fun w => (jh w).trans (by rw [hb20]))) ?_
       intro a hA
       refine qa (v := .bool false) hA rfl rfl rfl (ql rfl rfl rfl rfl) ?_
       intro a hA
       refine qf ?_
       refine hK11 _ _ ?_
       refine wp_cond_false (hA.ev rfl) ?_
       refine wp_skip ?_
       refine hK10 _ _ ?_
       refine wp_region_lit ?_
       refine qa hA rfl rfl rfl (qe rfl) ?_
       intro a hA
       refine qa (v := .int .i64 (((i + 1 : Nat) : Int))) hA rfl rfl rfl (qg rfl rfl (ar_add ((in_i64 (by omega) (by omega)).trans (by omega)))) ?_
       intro a hA
       refine qa hA rfl rfl rfl (qb rfl) ?_
       intro a hA
       refine qf ?_
       refine hK5 _ _ _ (by omega) ⟨i + 1, rfl, ⟨by omega, fun j z hj hz => if h9 : j < i then hin9 j z h9 hz else by have h8 : j = i := (by omega); subst h8; rw [hz9] at hz; rw [← Option.some.inj hz]; unfold vf; simp_all⟩, hA.keep _ ⟨rfl, rfl, trivial⟩, hM⟩
 · have hb9' := of_decide_eq_false hb9
   refine qa (v := .bool false) hA rfl rfl rfl (qg rfl rfl (fun w => (zk w).trans (by rw [hb9]))) ?_
   intro a hA
   refine qf ?_
   refine hK8 _ _ ?_
   refine wp_cond_false (hA.ev rfl) ?_
   refine wp_exit ?_
   refine hK2 _ _ ?_
   refine wp_seq_k (fun K22 hK22 => ?_)
   refine wp_region_lit ?_
   refine qa hA rfl rfl rfl (qb rfl) ?_
   intro a hA
   refine qf ?_
   refine hK22 _ _ ?_
   refine wp_ret ?_
   refine hret _ _ ?_
   refine za (v := .bool true) hA rfl (.cons (qk rfl) .nil) rfl ?_
   exact ⟨by rw [show l.any vf = false from List.any_eq_false.2 (fun z hz => (by obtain ⟨j, hj⟩ := List.mem_iff_getElem?.1 hz; rw [hin9 j z (by have := (List.getElem?_eq_some_iff.1 hj).1; omega) hj]; decide))]; rfl, hM.bel⟩
end Go.Proofs.YtoopkbedjbnhhaaGreatDoor.G
namespace Go.Proofs.YtoopkbedjbnhhaaGreatDoor.G
open Go.RowKit
set_option maxRecDepth 100000
theorem TrU_is1_21 : Is1 Tryz.prog 21 := ⟨⟨_, Tryz.underlying21, rfl⟩, by kernel_rfl⟩
theorem TrU_is1_5 : Is1 Tryz.prog 5 := ⟨⟨_, Tryz.underlying5, rfl⟩, by kernel_rfl⟩
open Go.Lib
theorem qgf {f p : Nat} {l : List UInt8} (hl : l ≠ []) : kj (f + 1) p l = ((p : Int), uR (decodeL l).1 (decodeL l).2) :: kj f (p + (decodeL l).2) (l.drop (decodeL l).2) := by
  conv => lhs; unfold kj
  rw [if_neg hl]
theorem rb_open {w : World} {so : Option Addr} {l : List UInt8} {i : Nat} (h : Rb w so l) (hi : i < l.length) : ∃ b off, so = some ⟨b, off, none⟩ ∧ b < w.heap.size ∧ ∀ j, j < l.length → w.cell? ⟨b, off + j, none⟩ = some (.int .u8 (((l.getD j 0).toNat : Nat) : Int)) :=
  h.pos (fun k => by rw [k] at hi; exact absurd hi (Nat.not_lt_zero _))
def xm (us : List (Int × Int)) : List Value := us.flatMap fun u => if u.2 = -1 then [.int .i32 0, .bool true, .int .i64 u.1] else [.int .i32 u.2, .bool false, .int .i64 u.1]
theorem and_u8 {x : Int} (i : Nat) (m : Int) (hm : m = ((2 ^ i - 1 : Nat) : Int)) (hs : m ≤ 255) (h0 : 0 ≤ x) (h1 : x ≤ 255) : bits .and .u8 x m = x % ((2 ^ i : Nat) : Int) := by
  obtain ⟨n, rfl⟩ : ∃ n : Nat, x = (n : Int) := ⟨x.toNat, by omega⟩
  subst hm
  have h2 : n &&& (2 ^ i - 1) = n % 2 ^ i := Nat.and_two_pow_sub_one_eq_mod n i
  have e : (BitVec.ofInt IntKind.u8.bits (n : Int) &&& BitVec.ofInt IntKind.u8.bits (((2 ^ i - 1 : Nat)) : Int)).toNat = n % 2 ^ i := by
    rw [← h2, BitVec.ofInt_natCast, BitVec.ofInt_natCast, BitVec.toNat_and, BitVec.toNat_ofNat, BitVec.toNat_ofNat]
    show n % 256 &&& (2 ^ i - 1) % 256 = _
    rw [Nat.mod_eq_of_lt (by omega), Nat.mod_eq_of_lt (by omega)]
  show IntKind.u8.wrap ((BitVec.ofInt IntKind.u8.bits (n : Int) &&& BitVec.ofInt IntKind.u8.bits (((2 ^ i - 1 : Nat)) : Int)).toNat : Int) = _
  rw [e]
  have := Nat.mod_le n (2 ^ i)
  exact (in_u8 (by omega) (by omega)).trans (Int.natCast_emod n (2 ^ i))
theorem or_six {c x : Int} (h0 : 0 ≤ c) (h1 : c ≤ 33554431) (h2 : 0 ≤ x) (h3 : x ≤ 63) : bits .or .i32 (c * 64) x = c * 64 + x := by
  obtain ⟨a, rfl⟩ : ∃ a : Nat, c = (a : Int) := ⟨c.toNat, by omega⟩
  obtain ⟨n, rfl⟩ : ∃ n : Nat, x = (n : Int) := ⟨x.toNat, by omega⟩
  have := Nat.two_pow_add_eq_or_of_lt (i := 6) (b := n) (by omega) a
  rw [show (2 : Nat) ^ 6 = 64 from rfl] at this
  have e := or_i32 (64 * a) n (by omega) (by omega)
  rw [show (((64 * a : Nat)) : Int) = (a : Int) * 64 from by omega] at e
  rw [e, ← this]
  omega
def qgg (l : List UInt8) (i : Nat) : List (Int × Int) := kj (l.length - i) i (l.drop i)
theorem restU_zero (l : List UInt8) : qgg l 0 = xf l := by unfold qgg xf; rw [List.drop_zero, Nat.sub_zero]
theorem restU_over {l : List UInt8} {i : Nat} (h : ¬ i < l.length) : qgg l i = [] := by unfold qgg; rw [show l.length - i = 0 from by omega]; rfl
theorem qla {l : List UInt8} {i r q : Nat} (h : i < l.length) (e : decodeN (l.length - i) (l.getD i 0).toNat (l.getD (i + 1) 0).toNat (l.getD (i + 2) 0).toNat (l.getD (i + 3) 0).toNat = (r, q)) : qgg l i = ((i : Int), uR r q) :: qgg l (i + q) := by
  have hne : l.drop i ≠ [] := fun k => by
    have := congrArg List.length k
    rw [List.length_drop, List.length_nil] at this
    omega
  have hd : decodeL (l.drop i) = (r, q) := by
    rw [decodeL_N, ul, ul, ul, ul, List.length_drop]
    exact e
  have hw := yz _ hne
  rw [hd, List.length_drop] at hw
  simp only at hw
  unfold qgg
  obtain ⟨m, hm⟩ : ∃ m, l.length - i = m + 1 := ⟨l.length - i - 1, by omega⟩
  rw [hm, qgf hne, hd, List.drop_drop]
  simp only
  rw [qga m (l.length - (i + q)) _ _ (by rw [List.length_drop]; omega) (by rw [List.length_drop]; omega)]
def LeadU (x n : Nat) (r : Int) : Prop := (x < 128 ∧ n = 1 ∧ r = x) ∨ (192 ≤ x ∧ x < 224 ∧ n = 2 ∧ r = x % 32) ∨ (224 ≤ x ∧ x < 240 ∧ n = 3 ∧ r = x % 16) ∨ (240 ≤ x ∧ x < 248 ∧ n = 4 ∧ r = x % 8) ∨ ((128 ≤ x ∧ x < 192 ∨ 248 ≤ x) ∧ n = 0 ∧ r = 0)
def ContU (len i n : Nat) (b1 b2 b3 : Nat) (r : Int) (k : Nat) (rk : Int) (ok : Bool) : Prop := (ok = true ∧ 0 < n ∧ i + n ≤ len ∧ k ≤ n ∧ ((k = 1 ∧ rk = r) ∨ (k = 2 ∧ b1 / 64 = 2 ∧ rk = r * 64 + ((b1 % 64 : Nat) : Int)) ∨ (k = 3 ∧ b1 / 64 = 2 ∧ b2 / 64 = 2 ∧ rk = (r * 64 + ((b1 % 64 : Nat) : Int)) * 64 + ((b2 % 64 : Nat) : Int)) ∨ (k = 4 ∧ b1 / 64 = 2 ∧ b2 / 64 = 2 ∧ b3 / 64 = 2 ∧ rk = ((r * 64 + ((b1 % 64 : Nat) : Int)) * 64 + ((b2 % 64 : Nat) : Int)) * 64 + ((b3 % 64 : Nat) : Int)))) ∨
  (ok = false ∧ (¬ (0 < n ∧ i + n ≤ len) ∨ (1 < n ∧ b1 / 64 ≠ 2) ∨ (2 < n ∧ b2 / 64 ≠ 2) ∨ (3 < n ∧ b3 / 64 ≠ 2)))
def qdc (n : Nat) : Int := if n = 2 then 128 else if n = 3 then 2048 else 65536
theorem least_at {n : Nat} (h0 : 2 ≤ n) (h1 : n ≤ 4) : ([.int .i32 0, .int .i32 0, .int .i32 128, .int .i32 2048, .int .i32 65536] : List Value)[n * 1]? = some (.int .i32 (qdc n)) := by
  have h : n = 2 ∨ n = 3 ∨ n = 4 := by omega
  rcases h with rfl | rfl | rfl <;> rfl
theorem lead_4 {x n : Nat} {r : Int} (h : LeadU x n r) : n ≤ 4 ∧ 0 ≤ r ∧ r ≤ 127 ∧ (1 < n → r ≤ 31) := by unfold LeadU at h; omega
theorem cont_start {len i n b1 b2 b3 : Nat} {r : Int} {ok : Bool} (h : ok = decide (0 < n ∧ i + n ≤ len)) : ContU len i n b1 b2 b3 r 1 r ok := by
  unfold ContU
  by_cases k : 0 < n ∧ i + n ≤ len
  · exact .inl ⟨by rw [h, decide_eq_true k], k.1, k.2, by omega, .inl ⟨rfl, rfl⟩⟩
  · exact .inr ⟨by rw [h, decide_eq_false k], .inl k⟩
theorem cont_step {l : List UInt8} {i n k : Nat} {r rk : Int} (hn : n ≤ 4) (h : ContU l.length i n (l.getD (i + 1) 0).toNat (l.getD (i + 2) 0).toNat (l.getD (i + 3) 0).toNat r k rk true) (hk : k < n) : ContU l.length i n (l.getD (i + 1) 0).toNat (l.getD (i + 2) 0).toNat (l.getD (i + 3) 0).toNat r (k + 1) (rk * 64 + (((l.getD (i + k) 0).toNat : Nat) : Int) % 64) ((((l.getD (i + k) 0).toNat : Nat) : Int) / 64 == 2) := by
  rcases h with ⟨_, h1, h2, h3, h4⟩ | ⟨h, _⟩
  · unfold ContU
    have e : k = 1 ∨ k = 2 ∨ k = 3 := by omega
    rcases e with rfl | rfl | rfl
    · by_cases hb : (((l.getD (i + 1) 0).toNat : Nat) : Int) / 64 = 2
      · exact .inl ⟨beq_iff_eq.2 hb, h1, h2, by omega, by omega⟩
      · exact .inr ⟨beq_eq_false_iff_ne.2 hb, by omega⟩
    · by_cases hb : (((l.getD (i + 2) 0).toNat : Nat) : Int) / 64 = 2
      · exact .inl ⟨beq_iff_eq.2 hb, h1, h2, by omega, by omega⟩
      · exact .inr ⟨beq_eq_false_iff_ne.2 hb, by omega⟩
    · by_cases hb : (((l.getD (i + 3) 0).toNat : Nat) : Int) / 64 = 2
      · exact .inl ⟨beq_iff_eq.2 hb, h1, h2, by omega, by omega⟩
      · exact .inr ⟨beq_eq_false_iff_ne.2 hb, by omega⟩
  · cases h
theorem yp {len i n b1 b2 b3 k : Nat} {r rk : Int} (h : ContU len i n b1 b2 b3 r k rk true) : 0 < n ∧ i + n ≤ len ∧ k ≤ n ∧ 1 ≤ k ∧ (0 ≤ r → r ≤ 31 → k ≤ 3 → 0 ≤ rk ∧ rk ≤ 200000) ∧ (0 ≤ r → r ≤ 31 → 0 ≤ rk ∧ rk ≤ 40000000) ∧ (k = 1 → rk = r) := by
  rcases h with ⟨_, h1, h2, h3, h4⟩ | ⟨h, _⟩
  · omega
  · cases h
def EndU (len i n : Nat) (b0 b1 b2 b3 : Nat) (rk : Int) (ok : Bool) : Prop := (ok = true ∧ decodeN (len - i) b0 b1 b2 b3 = (rk.toNat, n) ∧ uR rk.toNat n = rk ∧ 0 ≤ rk ∧ 1 ≤ n ∧ i + n ≤ len) ∨ (ok = false ∧ decodeN (len - i) b0 b1 b2 b3 = (65533, 1))
theorem end_ok {len i n b0 b1 b2 b3 : Nat} {r rk : Int} (hi : i < len) (h0 : b0 < 256) (hL : LeadU b0 n r) (hC : ContU len i n b1 b2 b3 r n rk true) (h : n = 1 ∨ (qdc n ≤ rk ∧ rk ≤ 1114111 ∧ (rk < 55296 ∨ 57343 < rk))) : EndU len i n b0 b1 b2 b3 rk true := by
  rcases hC with ⟨_, h1, h2, h3, h4⟩ | ⟨h, _⟩
  · unfold LeadU at hL
    unfold qdc at h
    have hn : n = 1 ∨ n = 2 ∨ n = 3 ∨ n = 4 := by omega
    refine .inl ⟨rfl, ?_, ?_, by rcases hn with rfl | rfl | rfl | rfl <;> omega, h1, h2⟩
    · unfold decodeN
      rcases hn with rfl | rfl | rfl | rfl
      · rw [if_pos (by omega)]
        exact Prod.ext (by show b0 = rk.toNat; omega) rfl
      · simp only [if_true] at h
        rw [if_neg (by omega), if_pos (by omega), if_pos (by omega)]
        exact Prod.ext (by show (_ : Nat) = rk.toNat; omega) rfl
      · rw [if_neg (show ¬ 3 = 2 by decide), if_pos rfl] at h
        rw [if_neg (by omega), if_neg (by omega), if_pos (by omega), if_pos (by omega)]
        exact Prod.ext (by show (_ : Nat) = rk.toNat; omega) rfl
      · rw [if_neg (show ¬ 4 = 2 by decide), if_neg (show ¬ 4 = 3 by decide)] at h
        rw [if_neg (by omega), if_neg (by omega), if_neg (by omega), if_pos (by omega), if_pos (by omega)]
        exact Prod.ext (by show (_ : Nat) = rk.toNat; omega) rfl
    · unfold uR
      rw [if_neg (by rcases hn with rfl | rfl | rfl | rfl <;> omega)]
      rcases hn with rfl | rfl | rfl | rfl <;> omega
  · cases h
theorem end_no {len i n b0 b1 b2 b3 k : Nat} {r rk : Int} {ok : Bool} (hi : i < len) (h0 : b0 < 256) (hL : LeadU b0 n r) (hC : ContU len i n b1 b2 b3 r k rk ok) (hk : ok = true → k = n) (h : ok = false ∨ (n ≠ 1 ∧ ¬ (qdc n ≤ rk ∧ rk ≤ 1114111 ∧ (rk < 55296 ∨ 57343 < rk)))) : EndU len i n b0 b1 b2 b3 rk false := by
  refine .inr ⟨rfl, ?_⟩
  unfold LeadU at hL
  unfold decodeN
  rcases hC with ⟨hb, h1, h2, h3, h4⟩ | ⟨hb, h4⟩
  · have hkn := hk hb
    subst hkn
    rcases h with h | ⟨h5, h6⟩
    · rw [hb] at h; cases h
    · have hn : k = 2 ∨ k = 3 ∨ k = 4 := by omega
      unfold qdc at h6
      rcases hn with rfl | rfl | rfl
      · simp only [if_true] at h6
        rw [if_neg (by omega), if_pos (by omega), if_neg (by omega)]
      · rw [if_neg (show ¬ 3 = 2 by decide), if_pos rfl] at h6
        rw [if_neg (by omega), if_neg (by omega), if_pos (by omega), if_neg (by omega)]
      · rw [if_neg (show ¬ 4 = 2 by decide), if_neg (show ¬ 4 = 3 by decide)] at h6
        rw [if_neg (by omega), if_neg (by omega), if_neg (by omega), if_pos (by omega), if_neg (by omega)]
  · rw [if_neg (by omega), if_neg (by omega), if_neg (by omega), if_neg (by omega)]
theorem rutf8_any {w : World} {so : Option Addr} {cap : Nat} {l : List UInt8} (hb : Rb w so l) (hlen : l.length ≤ 4000000) : Calls Tryz.prog 193 #[.slice so l.length cap] w fun e w' => ∃ v, e = .returned v ∧ Mg w w' [.row 219 3 v (xf l).length (xm (xf l))] := by
 have hM : Mg w w ([]) := Mg.start w
 refine qz (l := [(0, .slice so l.length cap)]) Tryz.func193 rfl Tryz.ntmps193 rfl rfl ?_
 intro Q hret hnorm hP a hA
 refine wp_seq_k (fun K1 hK1 => ?_)
 refine wp_region_lit ?_
 refine qa hA rfl rfl rfl (qb rfl) ?_
 intro a hA
 refine qf ?_
 refine hK1 _ _ ?_
 refine wp_seq_k (fun K2 hK2 => ?_)
 refine wp_region_lit ?_
 refine ks (e := 219) (sz := 3) (m := 0) (vs := []) hA hM rfl rfl rfl (zt rfl (by kernel_rfl)) rfl rfl (.inl (by decide)) ?_
 intro g3 w4 hM a hA
 refine qa hA rfl rfl rfl (qb rfl) ?_
 intro a hA
 refine qf ?_
 refine hK2 _ _ ?_
 refine wp_seq_k (fun K5 hK5 => ?_)
 refine wp_seq_k (fun K6 hK6 => ?_)
 refine wp_region_lit ?_
 refine qa hA rfl rfl rfl (qb rfl) ?_
 intro a hA
 refine qf ?_
 refine hK6 _ _ ?_
 refine wp_block ?_
 refine jd (fun m_ a w1 => ∃ (i : Nat) (acc : List (Int × Int)) (vo : Value), m_ = l.length - i ∧ (acc ++ qgg l i = xf l ∧ i ≤ l.length ∧ acc.length ≤ i) ∧ Sl a 122 [(0, .slice so l.length cap), (2, .slice none 0 0), (3, vo), (4, .int .i64 (((i : Nat) : Int))), (12, .slice (some ⟨g3, 0, none⟩) 0 0)] ∧ Mg w w1 (.row 219 3 (vo) acc.length ((xm acc)) :: [])) _ ⟨0, [], .slice (some ⟨g3, 0, none⟩) 0 0, rfl, ⟨by rw [restU_zero]; rfl, Nat.zero_le _, Nat.le_refl _⟩, hA.keep _ ⟨rfl, rfl, rfl, rfl, rfl, trivial⟩, hM⟩ ?_
 clear hM hA
 rintro m_ a w7 ⟨i, acc, vo, rfl, hinv9, hA, hM⟩ K8 hK8
 obtain ⟨hrun, hi9, hacc⟩ := hinv9
 refine wp_seq_k (fun K10 hK10 => ?_)
 refine wp_seq_k (fun K11 hK11 => ?_)
 refine wp_region_lit ?_
 refine qa hA rfl rfl rfl (qe rfl) ?_
 intro a hA
 refine qa hA rfl rfl rfl (qe rfl) ?_
 intro a hA
 refine qa (v := .int .i64 (((l.length : Nat) : Int))) hA rfl rfl rfl (zb Tryz.underlying27 rfl) ?_
 intro a hA
 rcases Bool.eq_false_or_eq_true (decide (((i : Nat) : Int) < ((l.length : Nat) : Int))) with hb12 | hb12
 · have hb12' := of_decide_eq_true hb12
   refine qa (v := .bool true) hA rfl rfl rfl (qg rfl rfl (fun w => (zk w).trans (by rw [hb12]))) ?_
   intro a hA
   refine qf ?_
   refine hK11 _ _ ?_
   refine wp_cond_true (hA.ev rfl) ?_
   refine wp_skip ?_
   refine hK10 _ _ ?_
   refine wp_block ?_
   refine wp_seq_k (fun K13 hK13 => ?_)
   refine wp_region_lit ?_
   refine qa hA rfl rfl rfl (qb rfl) ?_
   intro a hA
   refine qa hA rfl rfl rfl (qb rfl) ?_
   intro a hA
   refine qf ?_
   refine hK13 _ _ ?_
   refine wp_seq_k (fun K14 hK14 => ?_)
   have hi8 : i < l.length := by omega
   refine wp_region_lit ?_
   refine qa hA rfl rfl rfl (qe rfl) ?_
   intro a hA
   refine qa hA rfl rfl rfl (qe rfl) ?_
   intro a hA
   obtain ⟨bx, ox, hx1, hx2, hx3⟩ := rb_open (i := i) hb (by omega)
   have hu9 := (l.getD (i) 0).toNat_lt
   refine qa (v := .pointer (some ⟨bx, ox + (i), none⟩)) hA rfl rfl rfl (zi (k := i) Tryz.underlying27 (by kernel_rfl) rfl rfl rfl hx1 (by omega)) ?_
   intro a hA
   refine qa (v := .int .u8 ((((l.getD i 0).toNat : Nat) : Int))) hA rfl rfl rfl (m_loadR hM hx2 (hx3 (i) (by omega)) TrU_is1_5 rfl) ?_
   intro a hA
   refine qa hA rfl rfl rfl (qb rfl) ?_
   intro a hA
   refine qf ?_
   refine hK14 _ _ ?_
   refine wp_seq_k (fun K15 hK15 => ?_)
   have hJ16 : ∀ a w1, (∃ (n : Nat) (r : Int), (LeadU (l.getD i 0).toNat n r) ∧ Sl a 122 [(0, .slice so l.length cap), (2, .slice none 0 0), (3, vo), (4, .int .i64 (((i : Nat) : Int))), (5, .int .i64 (((n : Nat) : Int))), (6, .int .i32 r), (12, .slice (some ⟨g3, 0, none⟩) 0 0), (13, .int .i64 (((i : Nat) : Int))), (14, .slice so l.length cap), (15, .int .i64 (((l.length : Nat) : Int))), (16, .bool true), (17, .slice so l.length cap), (18, .int .i64 (((i : Nat) : Int))), (19, .pointer (some ⟨bx, ox + (i), none⟩)), (20, .int .u8 ((((l.getD i 0).toNat : Nat) : Int)))] ∧ Mg w w1 (.row 219 3 (vo) acc.length ((xm acc)) :: [])) → K15 a w1 := by
     clear hA hM
     rintro a w17 ⟨n, r, hf18, hA, hM⟩
     have hL := hf18
     have hn4 := lead_4 hL
     refine hK15 _ _ ?_
     refine wp_seq_k (fun K19 hK19 => ?_)
     have hJ20 : ∀ a w1, (∃ (ok : Bool), (ok = decide (0 < n ∧ i + n ≤ l.length)) ∧ Sl a 122 [(0, .slice so l.length cap), (2, .slice none 0 0), (3, vo), (4, .int .i64 (((i : Nat) : Int))), (5, .int .i64 (((n : Nat) : Int))), (6, .int .i32 r), (8, .bool ok), (12, .slice (some ⟨g3, 0, none⟩) 0 0), (13, .int .i64 (((i : Nat) : Int))), (14, .slice so l.length cap), (15, .int .i64 (((l.length : Nat) : Int))), (16, .bool true), (17, .slice so l.length cap), (18, .int .i64 (((i : Nat) : Int))), (19, .pointer (some ⟨bx, ox + (i), none⟩)), (20, .int .u8 ((((l.getD i 0).toNat : Nat) : Int)))] ∧ Mg w w1 (.row 219 3 (vo) acc.length ((xm acc)) :: [])) → K19 a w1 := by
       clear hA hM
       rintro a w21 ⟨ok, hf22, hA, hM⟩
       have hok := hf22
       refine hK19 _ _ ?_
       refine wp_seq_k (fun K23 hK23 => ?_)
       have hJ24 : ∀ a w1, (∃ (k : Nat) (rk : Int) (ok3 : Bool), (ContU l.length i n (l.getD (i + 1) 0).toNat (l.getD (i + 2) 0).toNat (l.getD (i + 3) 0).toNat r k rk ok3 ∧ (ok3 = true → k = n)) ∧ Sl a 122 [(0, .slice so l.length cap), (2, .slice none 0 0), (3, vo), (4, .int .i64 (((i : Nat) : Int))), (5, .int .i64 (((n : Nat) : Int))), (6, .int .i32 rk), (8, .bool ok3), (12, .slice (some ⟨g3, 0, none⟩) 0 0), (13, .int .i64 (((i : Nat) : Int))), (14, .slice so l.length cap), (15, .int .i64 (((l.length : Nat) : Int))), (16, .bool true), (17, .slice so l.length cap), (18, .int .i64 (((i : Nat) : Int))), (19, .pointer (some ⟨bx, ox + (i), none⟩)), (20, .int .u8 ((((l.getD i 0).toNat : Nat) : Int)))] ∧ Mg w w1 (.row 219 3 (vo) acc.length ((xm acc)) :: [])) → K23 a w1 := by
         clear hA hM
         rintro a w25 ⟨k, rk, ok3, hf26, hA, hM⟩
         obtain ⟨hC, hkn⟩ := hf26
         refine hK23 _ _ ?_
         refine wp_seq_k (fun K27 hK27 => ?_)
         have hJ28 : ∀ a w1, (∃ (ok4 : Bool), (EndU l.length i n (l.getD i 0).toNat (l.getD (i + 1) 0).toNat (l.getD (i + 2) 0).toNat (l.getD (i + 3) 0).toNat rk ok4) ∧ Sl a 122 [(0, .slice so l.length cap), (2, .slice none 0 0), (3, vo), (4, .int .i64 (((i : Nat) : Int))), (5, .int .i64 (((n : Nat) : Int))), (6, .int .i32 rk), (8, .bool ok4), (12, .slice (some ⟨g3, 0, none⟩) 0 0), (13, .int .i64 (((i : Nat) : Int))), (14, .slice so l.length cap), (15, .int .i64 (((l.length : Nat) : Int))), (16, .bool true), (17, .slice so l.length cap), (18, .int .i64 (((i : Nat) : Int))), (19, .pointer (some ⟨bx, ox + (i), none⟩)), (20, .int .u8 ((((l.getD i 0).toNat : Nat) : Int)))] ∧ Mg w w1 (.row 219 3 (vo) acc.length ((xm acc)) :: [])) → K27 a w1 := by
           clear hA hM
           rintro a w29 ⟨ok4, hf30, hA, hM⟩
           have hE := hf30
           refine hK27 _ _ ?_
           refine wp_seq_k (fun K31 hK31 => ?_)
           refine wp_region_lit ?_
           refine qa hA rfl rfl rfl (qe rfl) ?_
           intro a hA
           refine qf ?_
           refine hK31 _ _ ?_
           refine wp_cond_split (t := ok4) (hA.ev rfl) (fun hc32 => ?_) (fun hc32 => ?_)
           · refine wp_seq_k (fun K33 hK33 => ?_)
             refine wp_region_lit ?_
             refine qa hA rfl rfl rfl (qe rfl) ?_
             intro a hA
             refine qa hA rfl rfl rfl (qe rfl) ?_
             intro a hA
             refine qa hA rfl rfl rfl (qe rfl) ?_
             intro a hA
             refine qa (v := .agg #[.int .i32 rk, .bool false, .int .i64 (((i : Nat) : Int))]) hA rfl rfl rfl (xr rfl (fun w => by kernel_rfl)) ?_
             intro a hA
             refine ks (e := 219) (sz := 3) (m := 1) (vs := [.int .i32 rk, .bool false, .int .i64 (((i : Nat) : Int))]) hA hM rfl rfl rfl (zt rfl (by kernel_rfl)) rfl rfl (.inl (by decide)) ?_
             intro g34 w35 hM a hA
             refine kd (e := 219) (sz := 3) (k := 1) (q := acc.length) (m := 1) (xs := (xm acc)) (news := [.int .i32 rk, .bool false, .int .i64 (((i : Nat) : Int))]) (L' := fun v36 => (.row 219 3 (.slice (some ⟨g34, 0, none⟩) 1 1) 1 ([.int .i32 rk, .bool false, .int .i64 (((i : Nat) : Int))]) :: .row 219 3 (v36) (acc.length + 1) ((xm acc) ++ [.int .i32 rk, .bool false, .int .i64 (((i : Nat) : Int))]) :: [])) hA rfl rfl rfl (m_appendE (z := .agg #[.int .i32 0, .bool false, .int .i64 0]) (sz := 3) (by_ := 16) Tryz.underlying216 (by kernel_rfl) rfl rfl rfl hM 1 rfl rfl 0 rfl rfl rfl rfl (by omega)) (fun _ => rfl) ?_
             intro v36 w37 hM a hA
             refine qa hA rfl rfl rfl (qb rfl) ?_
             intro a hA
             refine qf ?_
             refine hK33 _ _ ?_
             refine wp_region_lit ?_
             refine qa hA rfl rfl rfl (qe rfl) ?_
             intro a hA
             refine qa hA rfl rfl rfl (qe rfl) ?_
             intro a hA
             refine qa (v := .int .i64 (((i + n : Nat) : Int))) hA rfl rfl rfl (qg rfl rfl (ar_add ((in_i64 (by omega) (by omega)).trans (by omega)))) ?_
             intro a hA
             refine qa hA rfl rfl rfl (qb rfl) ?_
             intro a hA
             refine qf ?_
             obtain ⟨hd, hr9, hrk, hn1, hn2⟩ : decodeN (l.length - i) (l.getD i 0).toNat (l.getD (i + 1) 0).toNat (l.getD (i + 2) 0).toNat (l.getD (i + 3) 0).toNat = (rk.toNat, n) ∧ uR rk.toNat n = rk ∧ 0 ≤ rk ∧ 1 ≤ n ∧ i + n ≤ l.length := by
               rcases hE with ⟨_, h⟩ | ⟨h, _⟩
               · exact h
               · rw [hc32] at h; cases h
             have hs9 := qla hi8 hd
             rw [hr9] at hs9
             replace hM : Mg w w37 [.row 219 3 v36 (acc ++ [((i : Int), rk)]).length (xm (acc ++ [((i : Int), rk)]))] := by
               have h9 := hM.sub (cN (cC (.refl _)))
               have e9 : xm (acc ++ [((i : Int), rk)]) = xm acc ++ [.int .i32 rk, .bool false, .int .i64 (((i : Nat) : Int))] := by
                 unfold xm
                 rw [List.flatMap_append, List.flatMap_singleton]
                 rw [if_neg (show ¬ _ = (-1 : Int) by simp only; omega)]
               rw [e9, List.length_append]
               exact h9
             refine hK8 _ _ _ (by omega) ⟨i + n, acc ++ [((i : Int), rk)], v36, rfl, ⟨by rw [← hrun, hs9, List.append_assoc]; rfl, by omega, by rw [List.length_append]; simp only [List.length_cons, List.length_nil]; omega⟩, hA.keep _ ⟨rfl, rfl, rfl, rfl, rfl, trivial⟩, hM⟩
           · refine wp_seq_k (fun K38 hK38 => ?_)
             refine wp_region_lit ?_
             refine qa hA rfl rfl rfl (qe rfl) ?_
             intro a hA
             refine qa hA rfl rfl rfl (qe rfl) ?_
             intro a hA
             refine qa (v := .agg #[.int .i32 0, .bool true, .int .i64 (((i : Nat) : Int))]) hA rfl rfl rfl (xr rfl (fun w => by kernel_rfl)) ?_
             intro a hA
             refine ks (e := 219) (sz := 3) (m := 1) (vs := [.int .i32 0, .bool true, .int .i64 (((i : Nat) : Int))]) hA hM rfl rfl rfl (zt rfl (by kernel_rfl)) rfl rfl (.inl (by decide)) ?_
             intro g39 w40 hM a hA
             refine kd (e := 219) (sz := 3) (k := 1) (q := acc.length) (m := 1) (xs := (xm acc)) (news := [.int .i32 0, .bool true, .int .i64 (((i : Nat) : Int))]) (L' := fun v41 => (.row 219 3 (.slice (some ⟨g39, 0, none⟩) 1 1) 1 ([.int .i32 0, .bool true, .int .i64 (((i : Nat) : Int))]) :: .row 219 3 (v41) (acc.length + 1) ((xm acc) ++ [.int .i32 0, .bool true, .int .i64 (((i : Nat) : Int))]) :: [])) hA rfl rfl rfl (m_appendE (z := .agg #[.int .i32 0, .bool false, .int .i64 0]) (sz := 3) (by_ := 16) Tryz.underlying216 (by kernel_rfl) rfl rfl rfl hM 1 rfl rfl 0 rfl rfl rfl rfl (by omega)) (fun _ => rfl) ?_
             intro v41 w42 hM a hA
             refine qa hA rfl rfl rfl (qb rfl) ?_
             intro a hA
             refine qf ?_
             refine hK38 _ _ ?_
             refine wp_region_lit ?_
             refine qa hA rfl rfl rfl (qe rfl) ?_
             intro a hA
             refine qa (v := .int .i64 (((i + 1 : Nat) : Int))) hA rfl rfl rfl (qg rfl rfl (ar_add ((in_i64 (by omega) (by omega)).trans (by omega)))) ?_
             intro a hA
             refine qa hA rfl rfl rfl (qb rfl) ?_
             intro a hA
             refine qf ?_
             have hd : decodeN (l.length - i) (l.getD i 0).toNat (l.getD (i + 1) 0).toNat (l.getD (i + 2) 0).toNat (l.getD (i + 3) 0).toNat = (65533, 1) := by
               rcases hE with ⟨h, _⟩ | ⟨_, h⟩
               · rw [hc32] at h; cases h
               · exact h
             have hr9 : uR 65533 1 = -1 := by unfold uR; rw [if_pos ⟨rfl, by decide⟩]
             have hs9 := qla hi8 hd
             rw [hr9] at hs9
             replace hM : Mg w w42 [.row 219 3 v41 (acc ++ [((i : Int), (-1))]).length (xm (acc ++ [((i : Int), (-1))]))] := by
               have h9 := hM.sub (cN (cC (.refl _)))
               have e9 : xm (acc ++ [((i : Int), (-1))]) = xm acc ++ [.int .i32 0, .bool true, .int .i64 (((i : Nat) : Int))] := by
                 unfold xm
                 rw [List.flatMap_append, List.flatMap_singleton]
                 rw [if_pos rfl]
               rw [e9, List.length_append]
               exact h9
             refine hK8 _ _ _ (by omega) ⟨i + 1, acc ++ [((i : Int), (-1))], v41, rfl, ⟨by rw [← hrun, hs9, List.append_assoc]; rfl, by omega, by rw [List.length_append]; simp only [List.length_cons, List.length_nil]; omega⟩, hA.keep _ ⟨rfl, rfl, rfl, rfl, rfl, trivial⟩, hM⟩
         refine wp_seq_k (fun K43 hK43 => ?_)
         refine wp_region_lit ?_
         refine qa hA rfl rfl rfl (qe rfl) ?_
         intro a hA
         refine qa hA rfl rfl rfl (qe rfl) ?_
         intro a hA
         rcases ok3 with _ | _
         · refine qj hA rfl rfl rfl ?_
           intro a hA
           refine qj hA rfl rfl rfl ?_
           intro a hA
           refine qa (v := .bool false) hA rfl rfl rfl (ql rfl rfl rfl rfl) ?_
           intro a hA
           refine qf ?_
           refine hK43 _ _ ?_
           refine wp_cond_false (hA.ev rfl) ?_
           refine wp_skip ?_
           replace hM : Mg w w25 (.row 219 3 (vo) acc.length ((xm acc)) :: []) := by
             have h9 := hM.sub (cC (.refl _))
             exact h9
           exact hJ28 _ _ ⟨false, end_no hi8 ((l.getD i 0).toNat_lt) hL hC hkn (.inl rfl), hA.keep _ (by repeat' constructor), hM⟩
         · refine qa hA rfl rfl rfl (qe rfl) ?_
           intro a hA
           rcases Bool.eq_false_or_eq_true (decide (1 < ((n : Nat) : Int))) with hb44 | hb44
           · have hb44' := of_decide_eq_true hb44
             refine qa (v := .bool true) hA rfl rfl rfl (qg rfl rfl (fun w => (jh w).trans (by rw [hb44]))) ?_
             intro a hA
             refine qa (v := .bool true) hA rfl rfl rfl (ql rfl rfl rfl rfl) ?_
             intro a hA
             refine qf ?_
             refine hK43 _ _ ?_
             refine wp_cond_true (hA.ev rfl) ?_
             refine wp_seq_k (fun K45 hK45 => ?_)
             refine wp_region_lit ?_
             refine ks (e := 21) (sz := 1) (m := 5) (vs := [.int .i32 0, .int .i32 0, .int .i32 128, .int .i32 2048, .int .i32 65536]) hA hM rfl rfl rfl (zt rfl (by kernel_rfl)) rfl rfl (.inl (by decide)) ?_
             intro g46 w47 hM a hA
             refine qa hA rfl rfl rfl (qb rfl) ?_
             intro a hA
             refine qf ?_
             refine hK45 _ _ ?_
             have hc9 := yp hC
             refine wp_region_lit ?_
             refine qa hA rfl rfl rfl (qe rfl) ?_
             intro a hA
             refine qa hA rfl rfl rfl (qe rfl) ?_
             intro a hA
             refine qa hA rfl rfl rfl (qe rfl) ?_
             intro a hA
             refine qa (v := .pointer (some ⟨g46, n * 1, none⟩)) hA rfl rfl rfl (vi (k := n) Tryz.underlying243 (by kernel_rfl) rfl rfl rfl (by omega)) ?_
             intro a hA
             refine qa (v := .int .i32 (qdc n)) hA rfl rfl rfl (m_loadE hM 0 rfl (least_at (by omega) (by omega)) TrU_is1_21 rfl) ?_
             intro a hA
             rcases Bool.eq_false_or_eq_true (decide (qdc n ≤ rk)) with hb48 | hb48
             · have hb48' := of_decide_eq_true hb48
               refine qa (v := .bool true) hA rfl rfl rfl (qg rfl rfl (fun w => (ju w).trans (by rw [hb48]))) ?_
               intro a hA
               refine qa hA rfl rfl rfl (qe rfl) ?_
               intro a hA
               refine qa hA rfl rfl rfl (qe rfl) ?_
               intro a hA
               rcases Bool.eq_false_or_eq_true (decide (rk ≤ 1114111)) with hb49 | hb49
               · have hb49' := of_decide_eq_true hb49
                 refine qa (v := .bool true) hA rfl rfl rfl (qg rfl rfl (fun w => (vp w).trans (by rw [hb49]))) ?_
                 intro a hA
                 refine qa (v := .bool true) hA rfl rfl rfl (ql rfl rfl rfl rfl) ?_
                 intro a hA
                 refine qa hA rfl rfl rfl (qe rfl) ?_
                 intro a hA
                 refine qa hA rfl rfl rfl (qe rfl) ?_
                 intro a hA
                 rcases Bool.eq_false_or_eq_true (decide (rk < 55296)) with hb50 | hb50
                 · have hb50' := of_decide_eq_true hb50
                   refine qa (v := .bool true) hA rfl rfl rfl (qg rfl rfl (fun w => (zk w).trans (by rw [hb50]))) ?_
                   intro a hA
                   refine qa hA rfl rfl rfl (qe rfl) ?_
                   intro a hA
                   refine qj hA rfl rfl rfl ?_
                   intro a hA
                   refine qj hA rfl rfl rfl ?_
                   intro a hA
                   refine qa (v := .bool true) hA rfl rfl rfl (ql rfl rfl rfl rfl) ?_
                   intro a hA
                   refine qa (v := .bool true) hA rfl rfl rfl (ql rfl rfl rfl rfl) ?_
                   intro a hA
                   refine qa hA rfl rfl rfl (qb rfl) ?_
                   intro a hA
                   refine qf ?_
                   replace hM : Mg w w47 (.row 219 3 (vo) acc.length ((xm acc)) :: []) := by
                     have h9 := hM.sub (cN (cC (.refl _)))
                     exact h9
                   have hc8 := yp hC
                   exact hJ28 _ _ ⟨true, end_ok hi8 ((l.getD i 0).toNat_lt) hL (hkn rfl ▸ hC) (by omega), hA.keep _ (by repeat' constructor), hM⟩
                 · have hb50' := of_decide_eq_false hb50
                   refine qa (v := .bool false) hA rfl rfl rfl (qg rfl rfl (fun w => (zk w).trans (by rw [hb50]))) ?_
                   intro a hA
                   refine qa hA rfl rfl rfl (qe rfl) ?_
                   intro a hA
                   refine qa hA rfl rfl rfl (qe rfl) ?_
                   intro a hA
                   rcases Bool.eq_false_or_eq_true (decide (57343 < rk)) with hb51 | hb51
                   · have hb51' := of_decide_eq_true hb51
                     refine qa (v := .bool true) hA rfl rfl rfl (qg rfl rfl (fun w => (jh w).trans (by rw [hb51]))) ?_
                     intro a hA
                     refine qa (v := .bool true) hA rfl rfl rfl (ql rfl rfl rfl rfl) ?_
                     intro a hA
                     refine qa (v := .bool true) hA rfl rfl rfl (ql rfl rfl rfl rfl) ?_
                     intro a hA
                     refine qa hA rfl rfl rfl (qb rfl) ?_
                     intro a hA
                     refine qf ?_
                     replace hM : Mg w w47 (.row 219 3 (vo) acc.length ((xm acc)) :: []) := by
                       have h9 := hM.sub (cN (cC (.refl _)))
                       exact h9
                     have hc8 := yp hC
                     exact hJ28 _ _ ⟨true, end_ok hi8 ((l.getD i 0).toNat_lt) hL (hkn rfl ▸ hC) (by omega), hA.keep _ (by repeat' constructor), hM⟩
                   · have hb51' := of_decide_eq_false hb51
                     refine qa (v := .bool false) hA rfl rfl rfl (qg rfl rfl (fun w => (jh w).trans (by rw [hb51]))) ?_
                     intro a hA
                     refine qa (v := .bool false) hA rfl rfl rfl (ql rfl rfl rfl rfl) ?_
                     intro a hA
                     refine qa (v := .bool false) hA rfl rfl rfl (ql rfl rfl rfl rfl) ?_
                     intro a hA
                     refine qa hA rfl rfl rfl (qb rfl) ?_
                     intro a hA
                     refine qf ?_
                     replace hM : Mg w w47 (.row 219 3 (vo) acc.length ((xm acc)) :: []) := by
                       have h9 := hM.sub (cN (cC (.refl _)))
                       exact h9
                     have hc8 := yp hC
                     exact hJ28 _ _ ⟨false, end_no hi8 ((l.getD i 0).toNat_lt) hL hC hkn (.inr ⟨by omega, by omega⟩), hA.keep _ (by repeat' constructor), hM⟩
               · have hb49' := of_decide_eq_false hb49
                 refine qa (v := .bool false) hA rfl rfl rfl (qg rfl rfl (fun w => (vp w).trans (by rw [hb49]))) ?_
                 intro a hA
                 refine qa (v := .bool false) hA rfl rfl rfl (ql rfl rfl rfl rfl) ?_
                 intro a hA
                 refine qa hA rfl rfl rfl (qe rfl) ?_
                 intro a hA
                 refine qj hA rfl rfl rfl ?_
                 intro a hA
                 refine qj hA rfl rfl rfl ?_
                 intro a hA
                 refine qj hA rfl rfl rfl ?_
                 intro a hA
                 refine xi hA rfl rfl rfl ?_
                 intro a hA
                 refine xi hA rfl rfl rfl ?_
                 intro a hA
                 refine qj hA rfl rfl rfl ?_
                 intro a hA
                 refine qa (v := .bool false) hA rfl rfl rfl (ql rfl rfl rfl rfl) ?_
                 intro a hA
                 refine qa hA rfl rfl rfl (qb rfl) ?_
                 intro a hA
                 refine qf ?_
                 replace hM : Mg w w47 (.row 219 3 (vo) acc.length ((xm acc)) :: []) := by
                   have h9 := hM.sub (cN (cC (.refl _)))
                   exact h9
                 have hc8 := yp hC
                 exact hJ28 _ _ ⟨false, end_no hi8 ((l.getD i 0).toNat_lt) hL hC hkn (.inr ⟨by omega, by omega⟩), hA.keep _ (by repeat' constructor), hM⟩
             · have hb48' := of_decide_eq_false hb48
               refine qa (v := .bool false) hA rfl rfl rfl (qg rfl rfl (fun w => (ju w).trans (by rw [hb48]))) ?_
               intro a hA
               refine qa hA rfl rfl rfl (qe rfl) ?_
               intro a hA
               refine qj hA rfl rfl rfl ?_
               intro a hA
               refine qj hA rfl rfl rfl ?_
               intro a hA
               refine qa (v := .bool false) hA rfl rfl rfl (ql rfl rfl rfl rfl) ?_
               intro a hA
               refine qa hA rfl rfl rfl (qe rfl) ?_
               intro a hA
               refine qj hA rfl rfl rfl ?_
               intro a hA
               refine qj hA rfl rfl rfl ?_
               intro a hA
               refine qj hA rfl rfl rfl ?_
               intro a hA
               refine xi hA rfl rfl rfl ?_
               intro a hA
               refine xi hA rfl rfl rfl ?_
               intro a hA
               refine qj hA rfl rfl rfl ?_
               intro a hA
               refine qa (v := .bool false) hA rfl rfl rfl (ql rfl rfl rfl rfl) ?_
               intro a hA
               refine qa hA rfl rfl rfl (qb rfl) ?_
               intro a hA
               refine qf ?_
               replace hM : Mg w w47 (.row 219 3 (vo) acc.length ((xm acc)) :: []) := by
                 have h9 := hM.sub (cN (cC (.refl _)))
                 exact h9
               have hc8 := yp hC
               exact hJ28 _ _ ⟨false, end_no hi8 ((l.getD i 0).toNat_lt) hL hC hkn (.inr ⟨by omega, by omega⟩), hA.keep _ (by repeat' constructor), hM⟩
           · have hb44' := of_decide_eq_false hb44
             refine qa (v := .bool false) hA rfl rfl rfl (qg rfl rfl (fun w => (jh w).trans (by rw [hb44]))) ?_
             intro a hA
             refine qa (v := .bool false) hA rfl rfl rfl (ql rfl rfl rfl rfl) ?_
             intro a hA
             refine qf ?_
             refine hK43 _ _ ?_
             refine wp_cond_false (hA.ev rfl) ?_
             refine wp_skip ?_
             replace hM : Mg w w25 (.row 219 3 (vo) acc.length ((xm acc)) :: []) := by
               have h9 := hM.sub (cC (.refl _))
               exact h9
             have hc8 := yp hC
             exact hJ28 _ _ ⟨true, end_ok hi8 ((l.getD i 0).toNat_lt) hL (hkn rfl ▸ hC) (by omega), hA.keep _ (by repeat' constructor), hM⟩
       refine wp_seq_k (fun K52 hK52 => ?_)
       refine wp_region_lit ?_
       refine qa hA rfl rfl rfl (qb rfl) ?_
       intro a hA
       refine qf ?_
       refine hK52 _ _ ?_
       refine wp_block ?_
       refine jd (fun m_ a w1 => ∃ (k : Nat) (rk : Int) (ok2 : Bool), m_ = 5 - k ∧ (ContU l.length i n (l.getD (i + 1) 0).toNat (l.getD (i + 2) 0).toNat (l.getD (i + 3) 0).toNat r k rk ok2) ∧ Sl a 122 [(0, .slice so l.length cap), (2, .slice none 0 0), (3, vo), (4, .int .i64 (((i : Nat) : Int))), (5, .int .i64 (((n : Nat) : Int))), (6, .int .i32 rk), (8, .bool ok2), (9, .int .i64 (((k : Nat) : Int))), (12, .slice (some ⟨g3, 0, none⟩) 0 0), (13, .int .i64 (((i : Nat) : Int))), (14, .slice so l.length cap), (15, .int .i64 (((l.length : Nat) : Int))), (16, .bool true), (17, .slice so l.length cap), (18, .int .i64 (((i : Nat) : Int))), (19, .pointer (some ⟨bx, ox + (i), none⟩)), (20, .int .u8 ((((l.getD i 0).toNat : Nat) : Int)))] ∧ Mg w w1 (.row 219 3 (vo) acc.length ((xm acc)) :: [])) _ ⟨1, r, ok, rfl, cont_start hok, hA.keep _ (by repeat' constructor), hM⟩ ?_
       clear hM hA
       rintro m_ a w53 ⟨k, rk, ok2, rfl, hinv55, hA, hM⟩ K54 hK54
       have hC := hinv55
       refine wp_seq_k (fun K56 hK56 => ?_)
       refine wp_seq_k (fun K57 hK57 => ?_)
       refine wp_region_lit ?_
       refine qa hA rfl rfl rfl (qe rfl) ?_
       intro a hA
       refine qa hA rfl rfl rfl (qe rfl) ?_
       intro a hA
       rcases ok2 with _ | _
       · refine qj hA rfl rfl rfl ?_
         intro a hA
         refine qj hA rfl rfl rfl ?_
         intro a hA
         refine qj hA rfl rfl rfl ?_
         intro a hA
         refine qa (v := .bool false) hA rfl rfl rfl (ql rfl rfl rfl rfl) ?_
         intro a hA
         refine qf ?_
         refine hK57 _ _ ?_
         refine wp_cond_false (hA.ev rfl) ?_
         refine wp_exit ?_
         exact hJ24 _ _ ⟨k, rk, false, ⟨hC, fun h => by cases h⟩, hA.keep _ (by repeat' constructor), hM⟩
       · refine qa hA rfl rfl rfl (qe rfl) ?_
         intro a hA
         refine qa hA rfl rfl rfl (qe rfl) ?_
         intro a hA
         rcases Bool.eq_false_or_eq_true (decide (((k : Nat) : Int) < ((n : Nat) : Int))) with hb58 | hb58
         · have hb58' := of_decide_eq_true hb58
           refine qa (v := .bool true) hA rfl rfl rfl (qg rfl rfl (fun w => (zk w).trans (by rw [hb58]))) ?_
           intro a hA
           refine qa (v := .bool true) hA rfl rfl rfl (ql rfl rfl rfl rfl) ?_
           intro a hA
           refine qf ?_
           refine hK57 _ _ ?_
           refine wp_cond_true (hA.ev rfl) ?_
           refine wp_skip ?_
           refine hK56 _ _ ?_
           refine wp_seq_k (fun K59 hK59 => ?_)
           refine wp_block ?_
           refine wp_seq_k (fun K60 hK60 => ?_)
           have hc9 := yp hC
           refine wp_region_lit ?_
           refine qa hA rfl rfl rfl (qe rfl) ?_
           intro a hA
           refine qa hA rfl rfl rfl (qe rfl) ?_
           intro a hA
           refine qa hA rfl rfl rfl (qe rfl) ?_
           intro a hA
           refine qa (v := .int .i64 (((i + k : Nat) : Int))) hA rfl rfl rfl (qg rfl rfl (ar_add ((in_i64 (by omega) (by omega)).trans (by omega)))) ?_
           intro a hA
           obtain ⟨bx, ox, hx1, hx2, hx3⟩ := rb_open (i := i + k) hb (by omega)
           have hu9 := (l.getD (i + k) 0).toNat_lt
           refine qa (v := .pointer (some ⟨bx, ox + (i + k), none⟩)) hA rfl rfl rfl (zi (k := i + k) Tryz.underlying27 (by kernel_rfl) rfl rfl rfl hx1 (by omega)) ?_
           intro a hA
           refine qa (v := .int .u8 ((((l.getD (i + k) 0).toNat : Nat) : Int))) hA rfl rfl rfl (m_loadR hM hx2 (hx3 (i + k) (by omega)) TrU_is1_5 rfl) ?_
           intro a hA
           refine qa hA rfl rfl rfl (qb rfl) ?_
           intro a hA
           refine qf ?_
           refine hK60 _ _ ?_
           refine wp_seq_k (fun K61 hK61 => ?_)
           refine wp_region_lit ?_
           refine qa hA rfl rfl rfl (qe rfl) ?_
           intro a hA
           refine qa (v := .int .u8 (((((l.getD (i + k) 0).toNat : Nat) : Int)) / 64)) hA rfl rfl rfl (qg rfl rfl (ar_shr (n := 6) rfl rfl rfl)) ?_
           intro a hA
           refine qa (v := .bool ((((((l.getD (i + k) 0).toNat : Nat) : Int)) / 64 == 2))) hA rfl rfl rfl (qg rfl rfl qx) ?_
           intro a hA
           refine qa hA rfl rfl rfl (qb rfl) ?_
           intro a hA
           refine qf ?_
           refine hK61 _ _ ?_
           refine wp_region_lit ?_
           refine qa hA rfl rfl rfl (qe rfl) ?_
           intro a hA
           refine qa (v := .int .i32 (rk * 64)) hA rfl rfl rfl (qg rfl rfl (ar_shl (n := 6) rfl rfl (in_i32 (by omega) (by omega)))) ?_
           intro a hA
           refine qa hA rfl rfl rfl (qe rfl) ?_
           intro a hA
           refine qa (v := .int .u8 (((((l.getD (i + k) 0).toNat : Nat) : Int)) % 64)) hA rfl rfl rfl (qg rfl rfl (ar_and (and_u8 6 63 rfl (by decide) (by omega) (by omega)))) ?_
           intro a hA
           refine qa (v := .int .i32 (((((l.getD (i + k) 0).toNat : Nat) : Int)) % 64)) hA rfl rfl rfl (zn rfl (ar_conv Tryz.underlying5 Tryz.underlying21 (in_i32 (by omega) (by omega)))) ?_
           intro a hA
           refine qa (v := .int .i32 (rk * 64 + (((((l.getD (i + k) 0).toNat : Nat) : Int)) % 64))) hA rfl rfl rfl (qg rfl rfl (ar_or (or_six (by omega) (by omega) (by omega) (by omega)))) ?_
           intro a hA
           refine qa hA rfl rfl rfl (qb rfl) ?_
           intro a hA
           refine qf ?_
           refine hK59 _ _ ?_
           refine wp_region_lit ?_
           refine qa hA rfl rfl rfl (qe rfl) ?_
           intro a hA
           refine qa (v := .int .i64 (((k + 1 : Nat) : Int))) hA rfl rfl rfl (qg rfl rfl (ar_add ((in_i64 (by omega) (by omega)).trans (by omega)))) ?_
           intro a hA
           refine qa hA rfl rfl rfl (qb rfl) ?_
           intro a hA
           refine qf ?_
           refine hK54 _ _ _ (by omega) ⟨k + 1, rk * 64 + (((((l.getD (i + k) 0).toNat : Nat) : Int)) % 64), (((((l.getD (i + k) 0).toNat : Nat) : Int)) / 64 == 2), rfl, cont_step (by omega) hC (by omega), hA.keep _ (by repeat' constructor), hM⟩
         · have hb58' := of_decide_eq_false hb58
           refine qa (v := .bool false) hA rfl rfl rfl (qg rfl rfl (fun w => (zk w).trans (by rw [hb58]))) ?_
           intro a hA
           refine qa (v := .bool false) hA rfl rfl rfl (ql rfl rfl rfl rfl) ?_
           intro a hA
           refine qf ?_
           refine hK57 _ _ ?_
           refine wp_cond_false (hA.ev rfl) ?_
           refine wp_exit ?_
           exact hJ24 _ _ ⟨k, rk, true, ⟨hC, fun _ => by have := yp hC; omega⟩, hA.keep _ (by repeat' constructor), hM⟩
     refine wp_region_lit ?_
     refine qa hA rfl rfl rfl (qe rfl) ?_
     intro a hA
     rcases Bool.eq_false_or_eq_true (decide (0 < ((n : Nat) : Int))) with hb62 | hb62
     · have hb62' := of_decide_eq_true hb62
       refine qa (v := .bool true) hA rfl rfl rfl (qg rfl rfl (fun w => (jh w).trans (by rw [hb62]))) ?_
       intro a hA
       refine qa hA rfl rfl rfl (qe rfl) ?_
       intro a hA
       refine qa hA rfl rfl rfl (qe rfl) ?_
       intro a hA
       refine qa hA rfl rfl rfl (qe rfl) ?_
       intro a hA
       refine qa (v := .int .i64 (((i + n : Nat) : Int))) hA rfl rfl rfl (qg rfl rfl (ar_add ((in_i64 (by omega) (by omega)).trans (by omega)))) ?_
       intro a hA
       refine qa hA rfl rfl rfl (qe rfl) ?_
       intro a hA
       refine qa (v := .int .i64 (((l.length : Nat) : Int))) hA rfl rfl rfl (zb Tryz.underlying27 rfl) ?_
       intro a hA
       rcases Bool.eq_false_or_eq_true (decide (((i + n : Nat) : Int) ≤ ((l.length : Nat) : Int))) with hb63 | hb63
       · have hb63' := of_decide_eq_true hb63
         refine qa (v := .bool true) hA rfl rfl rfl (qg rfl rfl (fun w => (vp w).trans (by rw [hb63]))) ?_
         intro a hA
         refine qa (v := .bool true) hA rfl rfl rfl (ql rfl rfl rfl rfl) ?_
         intro a hA
         refine qa hA rfl rfl rfl (qb rfl) ?_
         intro a hA
         refine qf ?_
         exact hJ20 _ _ ⟨true, (decide_eq_true (by omega)).symm, hA.keep _ (by repeat' constructor), hM⟩
       · have hb63' := of_decide_eq_false hb63
         refine qa (v := .bool false) hA rfl rfl rfl (qg rfl rfl (fun w => (vp w).trans (by rw [hb63]))) ?_
         intro a hA
         refine qa (v := .bool false) hA rfl rfl rfl (ql rfl rfl rfl rfl) ?_
         intro a hA
         refine qa hA rfl rfl rfl (qb rfl) ?_
         intro a hA
         refine qf ?_
         exact hJ20 _ _ ⟨false, (decide_eq_false (by omega)).symm, hA.keep _ (by repeat' constructor), hM⟩
     · have hb62' := of_decide_eq_false hb62
       refine qa (v := .bool false) hA rfl rfl rfl (qg rfl rfl (fun w => (jh w).trans (by rw [hb62]))) ?_
       intro a hA
       refine qa hA rfl rfl rfl (qe rfl) ?_
       intro a hA
       refine qj hA rfl rfl rfl ?_
       intro a hA
       refine qj hA rfl rfl rfl ?_
       intro a hA
       refine qj hA rfl rfl rfl ?_
       intro a hA
       refine qj hA rfl rfl rfl ?_
       intro a hA
       refine qj hA rfl rfl rfl ?_
       intro a hA
       refine qj hA rfl rfl rfl ?_
       intro a hA
       refine qa (v := .bool false) hA rfl rfl rfl (ql rfl rfl rfl rfl) ?_
       intro a hA
       refine qa hA rfl rfl rfl (qb rfl) ?_
       intro a hA
       refine qf ?_
       exact hJ20 _ _ ⟨false, (decide_eq_false (by omega)).symm, hA.keep _ (by repeat' constructor), hM⟩
   refine wp_block ?_
   refine wp_seq_k (fun K64 hK64 => ?_)
   refine wp_region_lit ?_
   refine qa hA rfl rfl rfl (qe rfl) ?_
   intro a hA
   rcases Bool.eq_false_or_eq_true (decide ((((l.getD i 0).toNat : Nat) : Int) < 128)) with hb65 | hb65
   · have hb65' := of_decide_eq_true hb65
     refine qa (v := .bool true) hA rfl rfl rfl (qg rfl rfl (fun w => (zk w).trans (by rw [hb65]))) ?_
     intro a hA
     refine qa hA rfl rfl rfl (qb rfl) ?_
     intro a hA
     refine qf ?_
     refine hK64 _ _ ?_
     refine wp_cond_true (hA.ev rfl) ?_
     refine wp_region_lit ?_
     refine qa hA rfl rfl rfl (qe rfl) ?_
     intro a hA
     refine qa (v := .int .i32 ((((l.getD i 0).toNat : Nat) : Int))) hA rfl rfl rfl (zn rfl (ar_conv Tryz.underlying5 Tryz.underlying21 (in_i32 (by omega) (by omega)))) ?_
     intro a hA
     refine qa hA rfl rfl rfl (qb rfl) ?_
     intro a hA
     refine qa hA rfl rfl rfl (qb rfl) ?_
     intro a hA
     refine qf ?_
     exact hJ16 _ _ ⟨1, (((l.getD i 0).toNat : Nat) : Int), (by unfold LeadU; omega), hA.keep _ (by repeat' constructor), hM⟩
   · have hb65' := of_decide_eq_false hb65
     refine qa (v := .bool false) hA rfl rfl rfl (qg rfl rfl (fun w => (zk w).trans (by rw [hb65]))) ?_
     intro a hA
     refine qa hA rfl rfl rfl (qb rfl) ?_
     intro a hA
     refine qf ?_
     refine hK64 _ _ ?_
     refine wp_cond_false (hA.ev rfl) ?_
     refine wp_seq_k (fun K66 hK66 => ?_)
     refine wp_region_lit ?_
     refine qa hA rfl rfl rfl (qe rfl) ?_
     intro a hA
     refine qa (v := .int .u8 (((((l.getD i 0).toNat : Nat) : Int)) / 32)) hA rfl rfl rfl (qg rfl rfl (ar_shr (n := 5) rfl rfl rfl)) ?_
     intro a hA
     rcases Bool.eq_false_or_eq_true ((((((l.getD i 0).toNat : Nat) : Int)) / 32 == 6)) with hb67 | hb67
     · have hb67' := eq_of_beq hb67
       refine qa (v := .bool true) hA rfl rfl rfl (qg rfl rfl (fun w => (qx w).trans (by rw [hb67]))) ?_
       intro a hA
       refine qa hA rfl rfl rfl (qb rfl) ?_
       intro a hA
       refine qf ?_
       refine hK66 _ _ ?_
       refine wp_cond_true (hA.ev rfl) ?_
       refine wp_region_lit ?_
       refine qa hA rfl rfl rfl (qe rfl) ?_
       intro a hA
       refine qa (v := .int .u8 (((((l.getD i 0).toNat : Nat) : Int)) % 32)) hA rfl rfl rfl (qg rfl rfl (ar_and (and_u8 5 31 rfl (by decide) (by omega) (by omega)))) ?_
       intro a hA
       refine qa (v := .int .i32 (((((l.getD i 0).toNat : Nat) : Int)) % 32)) hA rfl rfl rfl (zn rfl (ar_conv Tryz.underlying5 Tryz.underlying21 (in_i32 (by omega) (by omega)))) ?_
       intro a hA
       refine qa hA rfl rfl rfl (qb rfl) ?_
       intro a hA
       refine qa hA rfl rfl rfl (qb rfl) ?_
       intro a hA
       refine qf ?_
       exact hJ16 _ _ ⟨2, ((((l.getD i 0).toNat : Nat) : Int)) % 32, (by unfold LeadU; omega), hA.keep _ (by repeat' constructor), hM⟩
     · have hb67' := ne_of_beq_false hb67
       refine qa (v := .bool false) hA rfl rfl rfl (qg rfl rfl (fun w => (qx w).trans (by rw [hb67]))) ?_
       intro a hA
       refine qa hA rfl rfl rfl (qb rfl) ?_
       intro a hA
       refine qf ?_
       refine hK66 _ _ ?_
       refine wp_cond_false (hA.ev rfl) ?_
       refine wp_seq_k (fun K68 hK68 => ?_)
       refine wp_region_lit ?_
       refine qa hA rfl rfl rfl (qe rfl) ?_
       intro a hA
       refine qa (v := .int .u8 (((((l.getD i 0).toNat : Nat) : Int)) / 16)) hA rfl rfl rfl (qg rfl rfl (ar_shr (n := 4) rfl rfl rfl)) ?_
       intro a hA
       rcases Bool.eq_false_or_eq_true ((((((l.getD i 0).toNat : Nat) : Int)) / 16 == 14)) with hb69 | hb69
       · have hb69' := eq_of_beq hb69
         refine qa (v := .bool true) hA rfl rfl rfl (qg rfl rfl (fun w => (qx w).trans (by rw [hb69]))) ?_
         intro a hA
         refine qa hA rfl rfl rfl (qb rfl) ?_
         intro a hA
         refine qf ?_
         refine hK68 _ _ ?_
         refine wp_cond_true (hA.ev rfl) ?_
         refine wp_region_lit ?_
         refine qa hA rfl rfl rfl (qe rfl) ?_
         intro a hA
         refine qa (v := .int .u8 (((((l.getD i 0).toNat : Nat) : Int)) % 16)) hA rfl rfl rfl (qg rfl rfl (ar_and (and_u8 4 15 rfl (by decide) (by omega) (by omega)))) ?_
         intro a hA
         refine qa (v := .int .i32 (((((l.getD i 0).toNat : Nat) : Int)) % 16)) hA rfl rfl rfl (zn rfl (ar_conv Tryz.underlying5 Tryz.underlying21 (in_i32 (by omega) (by omega)))) ?_
         intro a hA
         refine qa hA rfl rfl rfl (qb rfl) ?_
         intro a hA
         refine qa hA rfl rfl rfl (qb rfl) ?_
         intro a hA
         refine qf ?_
         exact hJ16 _ _ ⟨3, ((((l.getD i 0).toNat : Nat) : Int)) % 16, (by unfold LeadU; omega), hA.keep _ (by repeat' constructor), hM⟩
       · have hb69' := ne_of_beq_false hb69
         refine qa (v := .bool false) hA rfl rfl rfl (qg rfl rfl (fun w => (qx w).trans (by rw [hb69]))) ?_
         intro a hA
         refine qa hA rfl rfl rfl (qb rfl) ?_
         intro a hA
         refine qf ?_
         refine hK68 _ _ ?_
         refine wp_cond_false (hA.ev rfl) ?_
         refine wp_seq_k (fun K70 hK70 => ?_)
         refine wp_region_lit ?_
         refine qa hA rfl rfl rfl (qe rfl) ?_
         intro a hA
         refine qa (v := .int .u8 (((((l.getD i 0).toNat : Nat) : Int)) / 8)) hA rfl rfl rfl (qg rfl rfl (ar_shr (n := 3) rfl rfl rfl)) ?_
         intro a hA
         rcases Bool.eq_false_or_eq_true ((((((l.getD i 0).toNat : Nat) : Int)) / 8 == 30)) with hb71 | hb71
         · have hb71' := eq_of_beq hb71
           refine qa (v := .bool true) hA rfl rfl rfl (qg rfl rfl (fun w => (qx w).trans (by rw [hb71]))) ?_
           intro a hA
           refine qa hA rfl rfl rfl (qb rfl) ?_
           intro a hA
           refine qf ?_
           refine hK70 _ _ ?_
           refine wp_cond_true (hA.ev rfl) ?_
           refine wp_region_lit ?_
           refine qa hA rfl rfl rfl (qe rfl) ?_
           intro a hA
           refine qa (v := .int .u8 (((((l.getD i 0).toNat : Nat) : Int)) % 8)) hA rfl rfl rfl (qg rfl rfl (ar_and (and_u8 3 7 rfl (by decide) (by omega) (by omega)))) ?_
           intro a hA
           refine qa (v := .int .i32 (((((l.getD i 0).toNat : Nat) : Int)) % 8)) hA rfl rfl rfl (zn rfl (ar_conv Tryz.underlying5 Tryz.underlying21 (in_i32 (by omega) (by omega)))) ?_
           intro a hA
           refine qa hA rfl rfl rfl (qb rfl) ?_
           intro a hA
           refine qa hA rfl rfl rfl (qb rfl) ?_
           intro a hA
           refine qf ?_
           exact hJ16 _ _ ⟨4, ((((l.getD i 0).toNat : Nat) : Int)) % 8, (by unfold LeadU; omega), hA.keep _ (by repeat' constructor), hM⟩
         · have hb71' := ne_of_beq_false hb71
           refine qa (v := .bool false) hA rfl rfl rfl (qg rfl rfl (fun w => (qx w).trans (by rw [hb71]))) ?_
           intro a hA
           refine qa hA rfl rfl rfl (qb rfl) ?_
           intro a hA
           refine qf ?_
           refine hK70 _ _ ?_
           refine wp_cond_false (hA.ev rfl) ?_
           refine wp_skip ?_
           exact hJ16 _ _ ⟨0, 0, (by unfold LeadU; omega), hA.keep _ (by repeat' constructor), hM⟩
 · have hb12' := of_decide_eq_false hb12
   refine qa (v := .bool false) hA rfl rfl rfl (qg rfl rfl (fun w => (zk w).trans (by rw [hb12]))) ?_
   intro a hA
   refine qf ?_
   refine hK11 _ _ ?_
   refine wp_cond_false (hA.ev rfl) ?_
   refine wp_exit ?_
   refine hK5 _ _ ?_
   refine wp_seq_k (fun K72 hK72 => ?_)
   refine wp_region_lit ?_
   refine qa hA rfl rfl rfl (qe rfl) ?_
   intro a hA
   refine qa hA rfl rfl rfl (qb rfl) ?_
   intro a hA
   refine qf ?_
   refine hK72 _ _ ?_
   refine wp_ret ?_
   refine hret _ _ ?_
   refine za (v := vo) hA rfl (.cons (qk rfl) .nil) rfl ?_
   rw [restU_over (by omega), List.append_nil] at hrun
   subst hrun
   exact ⟨_, rfl, hM⟩
end Go.Proofs.YtoopkbedjbnhhaaGreatDoor.G
namespace Go.Proofs.YtoopkbedjbnhhaaGreatDoor.G
open Go.RowKit Go.Lib

theorem owns_sliceE {w : World} {B : Nat} {e : TypeId} {sz : Nat} {v : Value} {n : Nat} {xs : List Value} (h : w.ownsRow B e sz v n xs) : ∃ so cap, v = .slice so n cap := by
  rcases h.2 with ⟨rfl, rfl⟩ | ⟨g, cap, cur, rfl, _⟩
  · exact ⟨none, 0, rfl⟩
  · exact ⟨_, cap, rfl⟩
section
variable {P : Program} {w0 w : World} {L : List Ck} {l : List (Nat × Value)} {dst : Option Tmp} {ty : TypeId} {pos : String} {after : Array Edge} {guard : Option (Nat × Bool)} {v : Value}
theorem does_convC {w' : World} {s d : TypeId} {x : Operand} {u : Value} (hx : ev l x = some u) (hr : (convert s d u).run P w = .ok v w') : Does P l ⟨dst, .convert s d x, ty, pos, after, guard⟩ w v w' := fun ρ h => by
  simp only [execOp, h x _ hx, Sem.run_bind, hr, Result.andThen_ok, Sem.run_pure]
theorem row_addr (hM : Mg w0 w L) (k : Nat) {e : TypeId} {sz n cap : Nat} {so : Option Addr} {xs : List Value} (hk : L[k]? = some (.row e sz (.slice so n cap) n xs)) (hn : 0 < n) : ∃ g, so = some ⟨g, 0, none⟩ := by
  rcases (hM.has k hk).2 with ⟨_, h0⟩ | ⟨g, cap', cur, he, _⟩
  · omega
  · cases he; exact ⟨g, rfl⟩
theorem does_indexX {t e : TypeId} {sz : Nat} (hu : P.underlying t = some (.slice e)) (he : (P.info? e).map (·.size) = some sz) {x i : Operand} {so : Option Addr} {g n c k : Nat} {z : Int} (hx : ev l x = some (.slice so n c)) (hi : ev l i = some (.int .i64 z)) (hz : z = (k : Nat)) (hso : so = some ⟨g, 0, none⟩) (hk : k < n) :
    Does P l ⟨dst, .indexAddr t x i, ty, pos, after, guard⟩ w (.pointer (some ⟨g, k * sz, none⟩)) w := by
  subst hso
  exact vi hu he hx hi hz hk
theorem m_loadX (hM : Mg w0 w L) (k : Nat) {e : TypeId} {sz g n c j : Nat} {so : Option Addr} {xs : List Value} (hk : L[k]? = some (.row e sz (.slice so n c) n xs)) (hso : so = some ⟨g, 0, none⟩) (hj : xs[j]? = some v) {t : TypeId} (ht : Is1 P t) {x : Operand} (hx : ev l x = some (.pointer (some ⟨g, j, none⟩))) : Does P l ⟨dst, .load t x, ty, pos, after, guard⟩ w v w := by
  subst hso
  exact m_loadE hM k hk hj ht hx
end
section
variable {P : Program} {w0 w : World} {L : List Ck} {l : List (Nat × Value)} {ops : List Oper} {Q : Exit → Act → World → Prop} {a : Act} {n : Nat} {rest : List Oper} {d : Nat} {dst : Option Tmp} {ty : TypeId} {pos : String} {after : Array Edge} {guard : Option (Nat × Bool)}
theorem s_bytes (hA : Sl a n l) (hM : Mg w0 w L) {t t' : TypeId} {x : Operand} {s : ByteArray} {o : Oper} (ho : o = ⟨dst, .convert t t' x, ty, pos, after, guard⟩) (ht : P.underlying t = some .string) (hd : P.underlying t' = some (.slice BY)) (he : P.underlying BY = some (.int .u8)) (hx : ev l x = some (.string s)) (hg : jt l ops o = true) (hdst : o.dst = some d) (hdn : Nat.blt d n = true)
    (hk : ∀ so cap w', Rb w' so s.data.toList → Mg w0 w' L → ∀ a', Sl a' n ((d, .slice so s.data.toList.length cap) :: l) → wpList P ops.toArray Q rest a' w') : wpList P ops.toArray Q (o :: rest) a w := by
  subst ho
  have hr := Go.Lib.run_convert_string_bytes (P := P) w t t' BY s ht hd he
  have hb : Below w.heap.size w (bytesWorld w BY s) := ⟨rfl, rfl, rfl, by rw [bytesWorld_size]; omega, fun j hj => bytesWorld_at_old w BY s j hj⟩
  refine qa hA hg hdst hdn (v := .slice (some ⟨w.heap.size, 0, none⟩) s.data.toList.length (grownCap w s.size 0 BY)) (w' := bytesWorld w BY s) (does_convC hx (by rw [ub]; exact hr)) (hk _ _ _ ⟨fun _ => ⟨w.heap.size, 0, rfl, by rw [bytesWorld_size]; omega, fun j hj => ?_⟩⟩ (hM.call hb))
  rw [ub] at hj
  rw [Nat.zero_add]
  exact bytesWorld_cell w BY s j hj
end
theorem qlb (u : Int × Int) (us : List (Int × Int)) : xm (u :: us) = (if u.2 = -1 then [.int .i32 0, .bool true, .int .i64 u.1] else [.int .i32 u.2, .bool false, .int .i64 u.1]) ++ xm us := rfl
theorem qlc : ∀ (us : List (Int × Int)) (i f : Nat) (u : Int × Int), us[i]? = some u → f < 3 → (xm us)[i * 3 + f]? = (if u.2 = -1 then [Value.int .i32 0, .bool true, .int .i64 u.1] else [.int .i32 u.2, .bool false, .int .i64 u.1])[f]?
  | [], i, f, u, h, hf => by simp at h
  | v :: us, 0, f, u, h, hf => by
    simp only [List.getElem?_cons_zero, Option.some.injEq] at h
    subst h
    rw [qlb, Nat.zero_mul, Nat.zero_add, List.getElem?_append_left]
    split <;> exact hf
  | v :: us, i + 1, f, u, h, hf => by
    rw [List.getElem?_cons_succ] at h
    rw [qlb, List.getElem?_append_right (by split <;> (simp only [List.length_cons, List.length_nil]; omega))]
    have e : (i + 1) * 3 + f - (if v.2 = -1 then [Value.int .i32 0, .bool true, .int .i64 v.1] else [.int .i32 v.2, .bool false, .int .i64 v.1]).length = i * 3 + f := by
      split <;> (simp only [List.length_cons, List.length_nil]; omega)
    rw [e]
    exact qlc us i f u h hf
theorem unit_get {us : List (Int × Int)} {i : Nat} (h : i < us.length) : ∃ ua ur, us[i]? = some (ua, ur) := ⟨_, _, List.getElem?_eq_getElem h⟩
theorem qld : ∀ (f p : Nat) (l : List UInt8), (kj f p l).length ≤ l.length
  | 0, _, _ => Nat.zero_le _
  | f + 1, p, l => by
    by_cases hl : l = []
    · subst hl; simp [kj]
    · rw [qgf hl, List.length_cons]
      have h1 := qld f (p + (decodeL l).2) (l.drop (decodeL l).2)
      have h2 := yz l hl
      rw [List.length_drop] at h1
      omega
theorem dec_fffd (l : List UInt8) (h : (decodeL l).1 = 65533) : (decodeL l).2 = 1 ∨ (decodeL l).2 = 3 ∨ (decodeL l).2 = 0 := by
  rw [decodeL_N] at h ⊢
  generalize (l.getD 0 0).toNat = b0 at h ⊢
  generalize (l.getD 1 0).toNat = b1 at h ⊢
  generalize (l.getD 2 0).toNat = b2 at h ⊢
  generalize (l.getD 3 0).toNat = b3 at h ⊢
  unfold decodeN at h ⊢
  repeat' split
  all_goals (simp_all)
  all_goals omega
theorem qcb : ∀ (f p : Nat) (l : List UInt8), validGoD f l = (kj f p l).all (fun u => !decide (u.2 = -1))
  | 0, p, l => rfl
  | f + 1, p, l => by
    unfold validGoD kj
    by_cases hl : l = []
    · rw [if_pos hl, if_pos hl]; rfl
    · rw [if_neg hl, if_neg hl, List.all_cons]
      have hw := yz l hl
      have h3 := dec_fffd l
      by_cases hb : (decodeL l).1 = 65533 ∧ (decodeL l).2 = 1
      · rw [if_pos hb]
        have : uR (decodeL l).1 (decodeL l).2 = -1 := by unfold uR; rw [if_pos ⟨hb.1, by omega⟩]
        rw [this]; rfl
      · rw [if_neg hb]
        have : ¬ uR (decodeL l).1 (decodeL l).2 = -1 := by
          unfold uR
          by_cases h9 : (decodeL l).1 = 65533
          · rw [if_neg (by have := h3 h9; omega)]; omega
          · rw [if_neg (fun e => h9 e.1)]; omega
        rw [decide_eq_false this, qcb f (p + (decodeL l).2)]
        simp
theorem okS_units (s : ByteArray) : okS s = (xf s.data.toList).all (fun u => !decide (u.2 = -1)) := qcb _ 0 _
theorem okS_bad {s : ByteArray} {i : Nat} {ua ur : Int} (h : (xf s.data.toList)[i]? = some (ua, ur)) (hr : ur = -1) : okS s = false := by
  rw [okS_units]
  apply Bool.eq_false_iff.2
  intro k
  have := List.all_eq_true.1 k _ (List.mem_of_getElem? h)
  simp [hr] at this
theorem okS_good {s : ByteArray} (h : ∀ (i : Nat) (ua ur : Int), (xf s.data.toList)[i]? = some (ua, ur) → ur ≠ -1) : okS s = true := by
  rw [okS_units, List.all_eq_true]
  intro u hu
  obtain ⟨i, hi⟩ := List.mem_iff_getElem?.1 hu
  simp [h i u.1 u.2 hi]
end Go.Proofs.YtoopkbedjbnhhaaGreatDoor.G
