/- TrB TrC JcF Jh Ja ShelfH JcG Le Jf JcH JcI -/
import Derived.Test.YtoopkbedjbnhhabGreatDoorPimport12f
import Derived.Test.YtoopkbedjbnhhabGreatDoorPimport12e
import Derived.Maps.RangeRun
import Derived.Shelf.Small.Utf8
import Derived.Shelf.Small.Bits
import Derived.Shelf.LaysM
import Derived.Shelf.Strconv.Clone
import Derived.Test.YtoopkbedjbnhhabGreatDoorProg
import Derived.RangeFuncNested
import Derived.RangeFuncLeaves
import Derived.LoopNIn
import Derived.Test.YtoopkbedjbnhhabGreatDoorArith
import Derived.ControlIn
import Derived.OrdersIn
set_option linter.unusedVariables false
set_option linter.unusedSimpArgs false
set_option maxHeartbeats 1000000
namespace Go.Proofs.YtoopkbedjbnhhabGreatDoor.G
open Go.RowKit
set_option maxRecDepth 100000
theorem TrB_is1_23 : Is1 Tryz.prog 23 := ⟨⟨_, Tryz.underlying23, rfl⟩, by kernel_rfl⟩
theorem TrB_is1_28 : Is1 Tryz.prog 28 := ⟨⟨_, Tryz.underlying28, rfl⟩, by kernel_rfl⟩
theorem TrB_is1_29 : Is1 Tryz.prog 29 := ⟨⟨_, Tryz.underlying29, rfl⟩, by kernel_rfl⟩
theorem TrB_is1_3 : Is1 Tryz.prog 3 := ⟨⟨_, Tryz.underlying3, rfl⟩, by kernel_rfl⟩
theorem TrB_is1_4 : Is1 Tryz.prog 4 := ⟨⟨_, Tryz.underlying4, rfl⟩, by kernel_rfl⟩
theorem TrB_is1_9 : Is1 Tryz.prog 9 := ⟨⟨_, Tryz.underlying9, rfl⟩, by kernel_rfl⟩
theorem TrB_fld_25_0 : FieldAt Tryz.prog 25 0 0 := ⟨_, _, Tryz.underlying25, rfl, rfl, by kernel_rfl⟩
theorem TrB_fld_25_1 : FieldAt Tryz.prog 25 1 1 := ⟨_, _, Tryz.underlying25, rfl, rfl, by kernel_rfl⟩
theorem TrB_fld_25_2 : FieldAt Tryz.prog 25 2 2 := ⟨_, _, Tryz.underlying25, rfl, rfl, by kernel_rfl⟩
theorem TrB_fld_27_0 : FieldAt Tryz.prog 27 0 0 := ⟨_, _, Tryz.underlying27, rfl, rfl, by kernel_rfl⟩
theorem TrB_fld_27_1 : FieldAt Tryz.prog 27 1 3 := ⟨_, _, Tryz.underlying27, rfl, rfl, by kernel_rfl⟩
theorem TrB_fld_31_0 : FieldAt Tryz.prog 31 0 0 := ⟨_, _, Tryz.underlying31, rfl, rfl, by kernel_rfl⟩
theorem TrB_fld_31_1 : FieldAt Tryz.prog 31 1 1 := ⟨_, _, Tryz.underlying31, rfl, rfl, by kernel_rfl⟩
theorem TrB_fld_31_2 : FieldAt Tryz.prog 31 2 2 := ⟨_, _, Tryz.underlying31, rfl, rfl, by kernel_rfl⟩
theorem TrB_fld_31_3 : FieldAt Tryz.prog 31 3 8 := ⟨_, _, Tryz.underlying31, rfl, rfl, by kernel_rfl⟩
theorem TrB_fld_31_4 : FieldAt Tryz.prog 31 4 9 := ⟨_, _, Tryz.underlying31, rfl, rfl, by kernel_rfl⟩
theorem TrB_fld_31_5 : FieldAt Tryz.prog 31 5 10 := ⟨_, _, Tryz.underlying31, rfl, rfl, by kernel_rfl⟩
theorem TrB_isS_25 : IsS Tryz.prog 25 3 := ⟨⟨_, Tryz.underlying25⟩, by kernel_rfl⟩
theorem TrB_isS_27 : IsS Tryz.prog 27 6 := ⟨⟨_, Tryz.underlying27⟩, by kernel_rfl⟩
theorem TrB_isS_31 : IsS Tryz.prog 31 11 := ⟨⟨_, Tryz.underlying31⟩, by kernel_rfl⟩
def Tabs8 (w : World) : Prop := Lib.Utf8Tabs (Tryz.laysValid_ren.g 3) (Tryz.laysValid_ren.g 4) w
theorem Tabs8.below {w w' : World} (h : Tabs8 w) (hb : Below w.heap.size w w') : Tabs8 w' := Utf8Tabs_below h hb
theorem yj {w : World} {s : ByteArray} (hs : s.size ≤ 9223372036854775807) (hT : Tabs8 w) {b : Bool} (h : okS s = b) : Calls Tryz.prog 54 #[.string s] w fun e w' => e = .returned (.bool b) ∧ Below w.heap.size w w' := h ▸ Any.utf8_ValidString Tryz.laysValid s w hs hT
theorem vrune_any {w : World} {r : Int} : Calls Tryz.prog 67 #[.int .i32 r] w fun e w' => e = .returned (.bool (Lib.validRune r)) ∧ Below w.heap.size w w' := (Tryz.utf8_ValidRune r w).mono fun e w' ⟨h, e2⟩ => ⟨h, e2 ▸ Below.refl _ _⟩
theorem convert_rune {P : Program} {s d : TypeId} (hs : P.underlying s = some (.int .i64)) (hd : P.underlying d = some (.int .i32)) {n : Int} (h0 : 0 ≤ n) (h1 : n ≤ 1114111) : ∀ w, (convert s d (.int .i64 n)).run P w = .ok (.int .i32 n) w := fun w => by
  simp [go_sem, run_underlying hs, run_underlying hd, convert]
  exact in_i32 (by omega) (by omega)
theorem isCh_any {w : World} {n : Int} : Calls Tryz.prog 53 #[.int .i64 n] w fun e w' => e = .returned (.bool (kz n)) ∧ Below w.heap.size w w' := by
 have hM : Mg w w ([]) := Mg.start w
 refine zb (l := [(0, .int .i64 n)]) Tryz.func53 rfl Tryz.ntmps53 rfl rfl ?_
 intro Q hret hnorm hP a hA
 refine wp_seq_k (fun K1 hK1 => ?_)
 refine wp_region_lit ?_
 refine qa hA rfl rfl rfl (qb rfl) ?_
 intro a hA
 refine qf ?_
 refine hK1 _ _ ?_
 refine wp_seq_k (fun K2 hK2 => ?_)
 refine wp_region_lit ?_
 refine qa hA rfl rfl rfl (qe rfl) ?_
 intro a hA
 rcases Bool.eq_false_or_eq_true (decide (0 ≤ n)) with hb3 | hb3
 · have hb3' := of_decide_eq_true hb3
   refine qa (v := .bool true) hA rfl rfl rfl (qg rfl rfl (fun w => (xu w).trans (by rw [hb3]))) ?_
   intro a hA
   refine qa hA rfl rfl rfl (qe rfl) ?_
   intro a hA
   refine qa hA rfl rfl rfl (qe rfl) ?_
   intro a hA
   rcases Bool.eq_false_or_eq_true (decide (n ≤ 1114111)) with hb4 | hb4
   · have hb4' := of_decide_eq_true hb4
     refine qa (v := .bool true) hA rfl rfl rfl (qg rfl rfl (fun w => (vv w).trans (by rw [hb4]))) ?_
     intro a hA
     refine qa (v := .bool true) hA rfl rfl rfl (qi rfl rfl rfl rfl) ?_
     intro a hA
     refine qa hA rfl rfl rfl (qe rfl) ?_
     intro a hA
     refine qa hA rfl rfl rfl (qe rfl) ?_
     intro a hA
     refine qa (v := .int .i32 n) hA rfl rfl rfl (je rfl (convert_rune Tryz.underlying3 Tryz.underlying21 (by omega) (by omega))) ?_
     intro a hA
     refine qm hA rfl rfl rfl (qh rfl rfl (fun w => by kernel_rfl)) (vrune_any) ?_
     rintro _ w5 ⟨rfl, hbv⟩
     replace hM := hM.call hbv
     refine ⟨_, rfl, ?_⟩
     intro a hA
     refine qa (v := .bool (Lib.validRune n)) hA rfl rfl rfl (qi rfl rfl rfl rfl) ?_
     intro a hA
     refine qa hA rfl rfl rfl (qb rfl) ?_
     intro a hA
     refine qf ?_
     refine hK2 _ _ ?_
     refine wp_ret ?_
     refine hret _ _ ?_
     refine ze (v := .bool (Lib.validRune n)) hA rfl (.cons (ql rfl) .nil) rfl ?_
     exact ⟨by rw [show kz n = Lib.validRune n from by unfold kz; unfold Lib.validRune; exact decide_eq_decide.2 (by omega)], hM.bel⟩
   · have hb4' := of_decide_eq_false hb4
     refine qa (v := .bool false) hA rfl rfl rfl (qg rfl rfl (fun w => (vv w).trans (by rw [hb4]))) ?_
     intro a hA
     refine qa (v := .bool false) hA rfl rfl rfl (qi rfl rfl rfl rfl) ?_
     intro a hA
     refine qa hA rfl rfl rfl (qe rfl) ?_
     intro a hA
     refine qj hA rfl rfl rfl ?_
     intro a hA
     refine qj hA rfl rfl rfl ?_
     intro a hA
     refine qj hA rfl rfl rfl ?_
     intro a hA
     refine qa (v := .bool false) hA rfl rfl rfl (qi rfl rfl rfl rfl) ?_
     intro a hA
     refine qa hA rfl rfl rfl (qb rfl) ?_
     intro a hA
     refine qf ?_
     refine hK2 _ _ ?_
     refine wp_ret ?_
     refine hret _ _ ?_
     refine ze (v := .bool false) hA rfl (.cons (ql rfl) .nil) rfl ?_
     exact ⟨by rw [show kz n = false from by unfold kz; apply decide_eq_false; omega], hM.bel⟩
 · have hb3' := of_decide_eq_false hb3
   refine qa (v := .bool false) hA rfl rfl rfl (qg rfl rfl (fun w => (xu w).trans (by rw [hb3]))) ?_
   intro a hA
   refine qa hA rfl rfl rfl (qe rfl) ?_
   intro a hA
   refine qj hA rfl rfl rfl ?_
   intro a hA
   refine qj hA rfl rfl rfl ?_
   intro a hA
   refine qa (v := .bool false) hA rfl rfl rfl (qi rfl rfl rfl rfl) ?_
   intro a hA
   refine qa hA rfl rfl rfl (qe rfl) ?_
   intro a hA
   refine qj hA rfl rfl rfl ?_
   intro a hA
   refine qj hA rfl rfl rfl ?_
   intro a hA
   refine qj hA rfl rfl rfl ?_
   intro a hA
   refine qa (v := .bool false) hA rfl rfl rfl (qi rfl rfl rfl rfl) ?_
   intro a hA
   refine qa hA rfl rfl rfl (qb rfl) ?_
   intro a hA
   refine qf ?_
   refine hK2 _ _ ?_
   refine wp_ret ?_
   refine hret _ _ ?_
   refine ze (v := .bool false) hA rfl (.cons (ql rfl) .nil) rfl ?_
   exact ⟨by rw [show kz n = false from by unfold kz; apply decide_eq_false; omega], hM.bel⟩
theorem qij {m1 m2 : Nat} (h1 : m1 ≤ 9223372036854775807) (h2 : m2 ≤ 9223372036854775807) : (IntKind.i64.wrap (((m1 : Nat) : Int) + ((m2 : Nat) : Int)) == 0) = (decide (m1 = 0) && decide (m2 = 0)) := by
  rw [IntKind.wrap_i64]
  by_cases a1 : m1 = 0
  · subst a1
    by_cases a2 : m2 = 0
    · subst a2; rfl
    · simp [a2]; omega
  · simp [a1]; omega
theorem ye {w : World} {b : Bool} {o1 o2 : Option Addr} {m1 m2 c1 c2 : Nat} (h1 : m1 ≤ 9223372036854775807) (h2 : m2 ≤ 9223372036854775807) {r : Bool} (hr : ki b m1 m2 = r) : Calls Tryz.prog 69 #[.agg #[.bool b, .slice o1 m1 c1, .slice o2 m2 c2]] w fun e w' => e = .returned (.bool r) ∧ Below w.heap.size w w' := by
 have hM : Mg w w ([]) := Mg.start w
 refine zb (l := [(0, .agg #[.bool b, .slice o1 m1 c1, .slice o2 m2 c2])]) Tryz.func69 rfl Tryz.ntmps69 rfl rfl ?_
 intro Q hret hnorm hP a hA
 refine wp_seq_k (fun K1 hK1 => ?_)
 refine wp_region_lit ?_
 refine jc (vs := [.bool b, .slice o1 m1 c1, .slice o2 m2 c2]) (t := 25) hA hM rfl rfl rfl (fun g => .pointer (some ⟨g, 0, none⟩)) (zm rfl rfl) (by decide) ?_
 intro g2 w3 hM a hA
 refine qa hA rfl rfl rfl (qb rfl) ?_
 intro a hA
 refine qf ?_
 refine hK1 _ _ ?_
 refine wp_seq_k (fun K4 hK4 => ?_)
 refine wp_region_lit ?_
 refine qa (v := .pointer (some ⟨g2, 0, none⟩)) hA rfl rfl rfl (qk TrB_fld_25_0 rfl rfl) ?_
 intro a hA
 refine qa hA rfl rfl rfl (zk hM TrB_is1_4 rfl 0 rfl rfl) ?_
 intro a hA
 rcases b with _ | _
 · refine qa (v := .bool true) hA rfl rfl rfl (qz rfl zg) ?_
   intro a hA
   refine qa hA rfl rfl rfl (qe rfl) ?_
   intro a hA
   refine qa (v := .pointer (some ⟨g2, 1, none⟩)) hA rfl rfl rfl (qk TrB_fld_25_1 rfl rfl) ?_
   intro a hA
   refine qa hA rfl rfl rfl (zk hM TrB_is1_23 rfl 0 rfl rfl) ?_
   intro a hA
   refine qa (v := .int .i64 (((m1 : Nat) : Int))) hA rfl rfl rfl (zj Tryz.underlying23 rfl) ?_
   intro a hA
   rcases Bool.eq_false_or_eq_true ((((m1 : Nat) : Int) == 0)) with hb5 | hb5
   · have hb5' := eq_of_beq hb5
     refine qa (v := .bool true) hA rfl rfl rfl (qg rfl rfl (fun w => (za w).trans (by rw [hb5]))) ?_
     intro a hA
     refine qa (v := .bool true) hA rfl rfl rfl (qi rfl rfl rfl rfl) ?_
     intro a hA
     refine qa hA rfl rfl rfl (qe rfl) ?_
     intro a hA
     refine qa (v := .pointer (some ⟨g2, 2, none⟩)) hA rfl rfl rfl (qk TrB_fld_25_2 rfl rfl) ?_
     intro a hA
     refine qa hA rfl rfl rfl (zk hM TrB_is1_23 rfl 0 rfl rfl) ?_
     intro a hA
     refine qa (v := .int .i64 (((m2 : Nat) : Int))) hA rfl rfl rfl (zj Tryz.underlying23 rfl) ?_
     intro a hA
     rcases Bool.eq_false_or_eq_true ((((m2 : Nat) : Int) == 0)) with hb6 | hb6
     · have hb6' := eq_of_beq hb6
       refine qa (v := .bool true) hA rfl rfl rfl (qg rfl rfl (fun w => (za w).trans (by rw [hb6]))) ?_
       intro a hA
       refine qa (v := .bool true) hA rfl rfl rfl (qi rfl rfl rfl rfl) ?_
       intro a hA
       refine qa hA rfl rfl rfl (qb rfl) ?_
       intro a hA
       refine qf ?_
       refine hK4 _ _ ?_
       refine wp_ret ?_
       refine hret _ _ ?_
       refine ze (v := .bool true) hA rfl (.cons (ql rfl) .nil) rfl ?_
       subst hr
       exact ⟨by unfold ki; simp_all; try omega, hM.bel⟩
     · have hb6' := ne_of_beq_false hb6
       refine qa (v := .bool false) hA rfl rfl rfl (qg rfl rfl (fun w => (za w).trans (by rw [hb6]))) ?_
       intro a hA
       refine qa (v := .bool false) hA rfl rfl rfl (qi rfl rfl rfl rfl) ?_
       intro a hA
       refine qa hA rfl rfl rfl (qb rfl) ?_
       intro a hA
       refine qf ?_
       refine hK4 _ _ ?_
       refine wp_ret ?_
       refine hret _ _ ?_
       refine ze (v := .bool false) hA rfl (.cons (ql rfl) .nil) rfl ?_
       subst hr
       exact ⟨by unfold ki; simp_all; try omega, hM.bel⟩
   · have hb5' := ne_of_beq_false hb5
     refine qa (v := .bool false) hA rfl rfl rfl (qg rfl rfl (fun w => (za w).trans (by rw [hb5]))) ?_
     intro a hA
     refine qa (v := .bool false) hA rfl rfl rfl (qi rfl rfl rfl rfl) ?_
     intro a hA
     refine qa hA rfl rfl rfl (qe rfl) ?_
     intro a hA
     refine qj hA rfl rfl rfl ?_
     intro a hA
     refine qj hA rfl rfl rfl ?_
     intro a hA
     refine qj hA rfl rfl rfl ?_
     intro a hA
     refine qj hA rfl rfl rfl ?_
     intro a hA
     refine qa (v := .bool false) hA rfl rfl rfl (qi rfl rfl rfl rfl) ?_
     intro a hA
     refine qa hA rfl rfl rfl (qb rfl) ?_
     intro a hA
     refine qf ?_
     refine hK4 _ _ ?_
     refine wp_ret ?_
     refine hret _ _ ?_
     refine ze (v := .bool false) hA rfl (.cons (ql rfl) .nil) rfl ?_
     subst hr
     exact ⟨by unfold ki; simp_all; try omega, hM.bel⟩
 · refine qa (v := .bool false) hA rfl rfl rfl (qz rfl zg) ?_
   intro a hA
   refine qa hA rfl rfl rfl (qe rfl) ?_
   intro a hA
   refine qj hA rfl rfl rfl ?_
   intro a hA
   refine qj hA rfl rfl rfl ?_
   intro a hA
   refine qj hA rfl rfl rfl ?_
   intro a hA
   refine qj hA rfl rfl rfl ?_
   intro a hA
   refine qa (v := .bool false) hA rfl rfl rfl (qi rfl rfl rfl rfl) ?_
   intro a hA
   refine qa hA rfl rfl rfl (qe rfl) ?_
   intro a hA
   refine qj hA rfl rfl rfl ?_
   intro a hA
   refine qj hA rfl rfl rfl ?_
   intro a hA
   refine qj hA rfl rfl rfl ?_
   intro a hA
   refine qj hA rfl rfl rfl ?_
   intro a hA
   refine qa (v := .bool false) hA rfl rfl rfl (qi rfl rfl rfl rfl) ?_
   intro a hA
   refine qa hA rfl rfl rfl (qb rfl) ?_
   intro a hA
   refine qf ?_
   refine hK4 _ _ ?_
   refine wp_ret ?_
   refine hret _ _ ?_
   refine ze (v := .bool false) hA rfl (.cons (ql rfl) .nil) rfl ?_
   subst hr
   exact ⟨by unfold ki; simp_all; try omega, hM.bel⟩
theorem qah {w : World} {b : Bool} {o1 o2 : Option Addr} {m1 m2 c1 c2 : Nat} (h1 : m1 ≤ 9223372036854775807) (h2 : m2 ≤ 9223372036854775807) {r : Bool} (hr : ki b m1 m2 = r) : Calls Tryz.prog 50 #[.agg #[.bool b, .slice o1 m1 c1, .slice o2 m2 c2]] w fun e w' => e = .returned (.bool r) ∧ Below w.heap.size w w' := by
 have hM : Mg w w ([]) := Mg.start w
 refine zb (l := [(0, .agg #[.bool b, .slice o1 m1 c1, .slice o2 m2 c2])]) Tryz.func50 rfl Tryz.ntmps50 rfl rfl ?_
 intro Q hret hnorm hP a hA
 refine wp_seq_k (fun K1 hK1 => ?_)
 refine wp_region_lit ?_
 refine jc (vs := [.bool b, .slice o1 m1 c1, .slice o2 m2 c2]) (t := 25) hA hM rfl rfl rfl (fun g => .pointer (some ⟨g, 0, none⟩)) (zm rfl rfl) (by decide) ?_
 intro g2 w3 hM a hA
 refine qa hA rfl rfl rfl (qb rfl) ?_
 intro a hA
 refine qf ?_
 refine hK1 _ _ ?_
 refine wp_seq_k (fun K4 hK4 => ?_)
 refine wp_region_lit ?_
 refine qa (v := .pointer (some ⟨g2, 0, none⟩)) hA rfl rfl rfl (qk TrB_fld_25_0 rfl rfl) ?_
 intro a hA
 refine qa hA rfl rfl rfl (zk hM TrB_is1_4 rfl 0 rfl rfl) ?_
 intro a hA
 rcases b with _ | _
 · refine qa (v := .bool true) hA rfl rfl rfl (qz rfl zg) ?_
   intro a hA
   refine qa hA rfl rfl rfl (qe rfl) ?_
   intro a hA
   refine qa (v := .pointer (some ⟨g2, 1, none⟩)) hA rfl rfl rfl (qk TrB_fld_25_1 rfl rfl) ?_
   intro a hA
   refine qa hA rfl rfl rfl (zk hM TrB_is1_23 rfl 0 rfl rfl) ?_
   intro a hA
   refine qa (v := .int .i64 (((m1 : Nat) : Int))) hA rfl rfl rfl (zj Tryz.underlying23 rfl) ?_
   intro a hA
   refine qa (v := .pointer (some ⟨g2, 2, none⟩)) hA rfl rfl rfl (qk TrB_fld_25_2 rfl rfl) ?_
   intro a hA
   refine qa hA rfl rfl rfl (zk hM TrB_is1_23 rfl 0 rfl rfl) ?_
   intro a hA
   refine qa (v := .int .i64 (((m2 : Nat) : Int))) hA rfl rfl rfl (zj Tryz.underlying23 rfl) ?_
   intro a hA
   refine qa (v := .int .i64 (IntKind.i64.wrap (((m1 : Nat) : Int) + ((m2 : Nat) : Int)))) hA rfl rfl rfl (qg rfl rfl (ar_add rfl)) ?_
   intro a hA
   rcases Bool.eq_false_or_eq_true ((IntKind.i64.wrap (((m1 : Nat) : Int) + ((m2 : Nat) : Int)) == 0)) with hb5 | hb5
   · have hb5' := eq_of_beq hb5
     refine qa (v := .bool true) hA rfl rfl rfl (qg rfl rfl (fun w => (za w).trans (by rw [hb5]))) ?_
     intro a hA
     refine qa (v := .bool true) hA rfl rfl rfl (qi rfl rfl rfl rfl) ?_
     intro a hA
     refine qa hA rfl rfl rfl (qb rfl) ?_
     intro a hA
     refine qf ?_
     refine hK4 _ _ ?_
     refine wp_ret ?_
     refine hret _ _ ?_
     refine ze (v := .bool true) hA rfl (.cons (ql rfl) .nil) rfl ?_
     subst hr
     have e9 := qij h1 h2
     try rw [e9] at hb5
     exact ⟨by unfold ki; simp_all; try omega, hM.bel⟩
   · have hb5' := ne_of_beq_false hb5
     refine qa (v := .bool false) hA rfl rfl rfl (qg rfl rfl (fun w => (za w).trans (by rw [hb5]))) ?_
     intro a hA
     refine qa (v := .bool false) hA rfl rfl rfl (qi rfl rfl rfl rfl) ?_
     intro a hA
     refine qa hA rfl rfl rfl (qb rfl) ?_
     intro a hA
     refine qf ?_
     refine hK4 _ _ ?_
     refine wp_ret ?_
     refine hret _ _ ?_
     refine ze (v := .bool false) hA rfl (.cons (ql rfl) .nil) rfl ?_
     subst hr
     have e9 := qij h1 h2
     try rw [e9] at hb5
     exact ⟨by unfold ki; simp_all; try omega, hM.bel⟩
 · refine qa (v := .bool false) hA rfl rfl rfl (qz rfl zg) ?_
   intro a hA
   refine qa hA rfl rfl rfl (qe rfl) ?_
   intro a hA
   refine qj hA rfl rfl rfl ?_
   intro a hA
   refine qj hA rfl rfl rfl ?_
   intro a hA
   refine qj hA rfl rfl rfl ?_
   intro a hA
   refine qj hA rfl rfl rfl ?_
   intro a hA
   refine qj hA rfl rfl rfl ?_
   intro a hA
   refine qj hA rfl rfl rfl ?_
   intro a hA
   refine qj hA rfl rfl rfl ?_
   intro a hA
   refine qj hA rfl rfl rfl ?_
   intro a hA
   refine qa (v := .bool false) hA rfl rfl rfl (qi rfl rfl rfl rfl) ?_
   intro a hA
   refine qa hA rfl rfl rfl (qb rfl) ?_
   intro a hA
   refine qf ?_
   refine hK4 _ _ ?_
   refine wp_ret ?_
   refine hret _ _ ?_
   refine ze (v := .bool false) hA rfl (.cons (ql rfl) .nil) rfl ?_
   subst hr
   have e9 := qij h1 h2
   exact ⟨by unfold ki; simp_all; try omega, hM.bel⟩
theorem bare_any {w : World} {k n : Int} {b1 b2 : Bool} {o1 o2 o3 o4 ro lo : Option Addr} {m1 m2 m3 m4 mr ml c1 c2 c3 c4 rc lc : Nat} {s : ByteArray} (h1 : m1 ≤ 9223372036854775807) (h2 : m2 ≤ 9223372036854775807) (h3 : m3 ≤ 9223372036854775807) (h4 : m4 ≤ 9223372036854775807) {r : Bool} (hr : vq n b1 m1 m2 b2 m3 m4 s mr ml = r) : Calls Tryz.prog 55 #[.agg #[.int .i64 k, .int .i64 n, .bool b1, .slice o1 m1 c1, .slice o2 m2 c2, .bool b2, .slice o3 m3 c3, .slice o4 m4 c4, .string s, .slice ro mr rc, .slice lo ml lc]] w fun e w' => e = .returned (.bool r) ∧ Below w.heap.size w w' := by
 have hM : Mg w w ([]) := Mg.start w
 refine zb (l := [(0, .agg #[.int .i64 k, .int .i64 n, .bool b1, .slice o1 m1 c1, .slice o2 m2 c2, .bool b2, .slice o3 m3 c3, .slice o4 m4 c4, .string s, .slice ro mr rc, .slice lo ml lc])]) Tryz.func55 rfl Tryz.ntmps55 rfl rfl ?_
 intro Q hret hnorm hP a hA
 refine wp_seq_k (fun K1 hK1 => ?_)
 refine wp_region_lit ?_
 refine jc (vs := [.int .i64 k, .int .i64 n, .bool b1, .slice o1 m1 c1, .slice o2 m2 c2, .bool b2, .slice o3 m3 c3, .slice o4 m4 c4, .string s, .slice ro mr rc, .slice lo ml lc]) (t := 31) hA hM rfl rfl rfl (fun g => .pointer (some ⟨g, 0, none⟩)) (zm rfl rfl) (by decide) ?_
 intro g2 w3 hM a hA
 refine qa hA rfl rfl rfl (qb rfl) ?_
 intro a hA
 refine qf ?_
 refine hK1 _ _ ?_
 refine wp_seq_k (fun K4 hK4 => ?_)
 refine wp_region_lit ?_
 refine qa (v := .pointer (some ⟨g2, 1, none⟩)) hA rfl rfl rfl (qk TrB_fld_31_1 rfl rfl) ?_
 intro a hA
 refine qa hA rfl rfl rfl (zk hM TrB_is1_3 rfl 0 rfl rfl) ?_
 intro a hA
 rcases Bool.eq_false_or_eq_true ((n == 0)) with hb5 | hb5
 · have hb5' := eq_of_beq hb5
   refine qa (v := .bool true) hA rfl rfl rfl (qg rfl rfl (fun w => (za w).trans (by rw [hb5]))) ?_
   intro a hA
   refine qa hA rfl rfl rfl (qe rfl) ?_
   intro a hA
   refine qa (v := .pointer (some ⟨g2, 2, none⟩)) hA rfl rfl rfl (qk TrB_fld_31_2 rfl rfl) ?_
   intro a hA
   refine qa (v := .pointer (some ⟨g2, 2, none⟩)) hA rfl rfl rfl (qk TrB_fld_27_0 rfl rfl) ?_
   intro a hA
   refine qa hA rfl rfl rfl (jf hM TrB_isS_25 rfl 0 rfl (cs := [.bool b1, .slice o1 m1 c1, .slice o2 m2 c2]) rfl rfl) ?_
   intro a hA
   rcases Bool.eq_false_or_eq_true (ki b1 m1 m2) with hb6 | hb6
   · refine qm hA rfl rfl rfl (qh rfl rfl (fun w => by kernel_rfl)) (ye h1 h2 hb6) ?_
     rintro _ w8 ⟨rfl, hb7⟩
     replace hM := hM.call hb7
     refine ⟨_, rfl, ?_⟩
     intro a hA
     refine qa (v := .bool true) hA rfl rfl rfl (qi rfl rfl rfl rfl) ?_
     intro a hA
     refine qa hA rfl rfl rfl (qe rfl) ?_
     intro a hA
     refine qa (v := .pointer (some ⟨g2, 2, none⟩)) hA rfl rfl rfl (qk TrB_fld_31_2 rfl rfl) ?_
     intro a hA
     refine qa (v := .pointer (some ⟨g2, 5, none⟩)) hA rfl rfl rfl (qk TrB_fld_27_1 rfl rfl) ?_
     intro a hA
     refine qa hA rfl rfl rfl (jf hM TrB_isS_25 rfl 0 rfl (cs := [.bool b2, .slice o3 m3 c3, .slice o4 m4 c4]) rfl rfl) ?_
     intro a hA
     rcases Bool.eq_false_or_eq_true (ki b2 m3 m4) with hb9 | hb9
     · refine qm hA rfl rfl rfl (qh rfl rfl (fun w => by kernel_rfl)) (ye h3 h4 hb9) ?_
       rintro _ w11 ⟨rfl, hb10⟩
       replace hM := hM.call hb10
       refine ⟨_, rfl, ?_⟩
       intro a hA
       refine qa (v := .bool true) hA rfl rfl rfl (qi rfl rfl rfl rfl) ?_
       intro a hA
       refine qa hA rfl rfl rfl (qe rfl) ?_
       intro a hA
       refine qa (v := .pointer (some ⟨g2, 8, none⟩)) hA rfl rfl rfl (qk TrB_fld_31_3 rfl rfl) ?_
       intro a hA
       refine qa hA rfl rfl rfl (zk hM TrB_is1_9 rfl 0 rfl rfl) ?_
       intro a hA
       rcases Bool.eq_false_or_eq_true (decide (s = ⟨#[]⟩)) with hb12 | hb12
       · have hb12' := of_decide_eq_true hb12
         refine qa (v := .bool true) hA rfl rfl rfl (qg rfl rfl (fun w => (jw Tryz.underlying9 w).trans (by rw [hb12] <;> rfl))) ?_
         intro a hA
         refine qa (v := .bool true) hA rfl rfl rfl (qi rfl rfl rfl rfl) ?_
         intro a hA
         refine qa hA rfl rfl rfl (qe rfl) ?_
         intro a hA
         refine qa (v := .pointer (some ⟨g2, 9, none⟩)) hA rfl rfl rfl (qk TrB_fld_31_4 rfl rfl) ?_
         intro a hA
         refine qa hA rfl rfl rfl (zk hM TrB_is1_28 rfl 0 rfl rfl) ?_
         intro a hA
         refine qa (v := .int .i64 (((mr : Nat) : Int))) hA rfl rfl rfl (zj Tryz.underlying28 rfl) ?_
         intro a hA
         rcases Bool.eq_false_or_eq_true ((((mr : Nat) : Int) == 0)) with hb13 | hb13
         · have hb13' := eq_of_beq hb13
           refine qa (v := .bool true) hA rfl rfl rfl (qg rfl rfl (fun w => (za w).trans (by rw [hb13]))) ?_
           intro a hA
           refine qa (v := .bool true) hA rfl rfl rfl (qi rfl rfl rfl rfl) ?_
           intro a hA
           refine qa hA rfl rfl rfl (qe rfl) ?_
           intro a hA
           refine qa (v := .pointer (some ⟨g2, 10, none⟩)) hA rfl rfl rfl (qk TrB_fld_31_5 rfl rfl) ?_
           intro a hA
           refine qa hA rfl rfl rfl (zk hM TrB_is1_29 rfl 0 rfl rfl) ?_
           intro a hA
           refine qa (v := .int .i64 (((ml : Nat) : Int))) hA rfl rfl rfl (zj Tryz.underlying29 rfl) ?_
           intro a hA
           rcases Bool.eq_false_or_eq_true ((((ml : Nat) : Int) == 0)) with hb14 | hb14
           · have hb14' := eq_of_beq hb14
             refine qa (v := .bool true) hA rfl rfl rfl (qg rfl rfl (fun w => (za w).trans (by rw [hb14]))) ?_
             intro a hA
             refine qa (v := .bool true) hA rfl rfl rfl (qi rfl rfl rfl rfl) ?_
             intro a hA
             refine qa hA rfl rfl rfl (qb rfl) ?_
             intro a hA
             refine qf ?_
             refine hK4 _ _ ?_
             refine wp_ret ?_
             refine hret _ _ ?_
             refine ze (v := .bool true) hA rfl (.cons (ql rfl) .nil) rfl ?_
             subst hr
             exact ⟨by unfold vq; simp_all, hM.bel⟩
           · have hb14' := ne_of_beq_false hb14
             refine qa (v := .bool false) hA rfl rfl rfl (qg rfl rfl (fun w => (za w).trans (by rw [hb14]))) ?_
             intro a hA
             refine qa (v := .bool false) hA rfl rfl rfl (qi rfl rfl rfl rfl) ?_
             intro a hA
             refine qa hA rfl rfl rfl (qb rfl) ?_
             intro a hA
             refine qf ?_
             refine hK4 _ _ ?_
             refine wp_ret ?_
             refine hret _ _ ?_
             refine ze (v := .bool false) hA rfl (.cons (ql rfl) .nil) rfl ?_
             subst hr
             exact ⟨by unfold vq; simp_all, hM.bel⟩
         · have hb13' := ne_of_beq_false hb13
           refine qa (v := .bool false) hA rfl rfl rfl (qg rfl rfl (fun w => (za w).trans (by rw [hb13]))) ?_
           intro a hA
           refine qa (v := .bool false) hA rfl rfl rfl (qi rfl rfl rfl rfl) ?_
           intro a hA
           refine qa hA rfl rfl rfl (qe rfl) ?_
           intro a hA
           refine qj hA rfl rfl rfl ?_
           intro a hA
           refine qj hA rfl rfl rfl ?_
           intro a hA
           refine qj hA rfl rfl rfl ?_
           intro a hA
           refine qj hA rfl rfl rfl ?_
           intro a hA
           refine qa (v := .bool false) hA rfl rfl rfl (qi rfl rfl rfl rfl) ?_
           intro a hA
           refine qa hA rfl rfl rfl (qb rfl) ?_
           intro a hA
           refine qf ?_
           refine hK4 _ _ ?_
           refine wp_ret ?_
           refine hret _ _ ?_
           refine ze (v := .bool false) hA rfl (.cons (ql rfl) .nil) rfl ?_
           subst hr
           exact ⟨by unfold vq; simp_all, hM.bel⟩
       · have hb12' := of_decide_eq_false hb12
         refine qa (v := .bool false) hA rfl rfl rfl (qg rfl rfl (fun w => (jw Tryz.underlying9 w).trans (by rw [hb12] <;> rfl))) ?_
         intro a hA
         refine qa (v := .bool false) hA rfl rfl rfl (qi rfl rfl rfl rfl) ?_
         intro a hA
         refine qa hA rfl rfl rfl (qe rfl) ?_
         intro a hA
         refine qj hA rfl rfl rfl ?_
         intro a hA
         refine qj hA rfl rfl rfl ?_
         intro a hA
         refine qj hA rfl rfl rfl ?_
         intro a hA
         refine qj hA rfl rfl rfl ?_
         intro a hA
         refine qa (v := .bool false) hA rfl rfl rfl (qi rfl rfl rfl rfl) ?_
         intro a hA
         refine qa hA rfl rfl rfl (qe rfl) ?_
         intro a hA
         refine qj hA rfl rfl rfl ?_
         intro a hA
         refine qj hA rfl rfl rfl ?_
         intro a hA
         refine qj hA rfl rfl rfl ?_
         intro a hA
         refine qj hA rfl rfl rfl ?_
         intro a hA
         refine qa (v := .bool false) hA rfl rfl rfl (qi rfl rfl rfl rfl) ?_
         intro a hA
         refine qa hA rfl rfl rfl (qb rfl) ?_
         intro a hA
         refine qf ?_
         refine hK4 _ _ ?_
         refine wp_ret ?_
         refine hret _ _ ?_
         refine ze (v := .bool false) hA rfl (.cons (ql rfl) .nil) rfl ?_
         subst hr
         exact ⟨by unfold vq; simp_all, hM.bel⟩
     · refine qm hA rfl rfl rfl (qh rfl rfl (fun w => by kernel_rfl)) (ye h3 h4 hb9) ?_
       rintro _ w16 ⟨rfl, hb15⟩
       replace hM := hM.call hb15
       refine ⟨_, rfl, ?_⟩
       intro a hA
       refine qa (v := .bool false) hA rfl rfl rfl (qi rfl rfl rfl rfl) ?_
       intro a hA
       refine qa hA rfl rfl rfl (qe rfl) ?_
       intro a hA
       refine qj hA rfl rfl rfl ?_
       intro a hA
       refine qj hA rfl rfl rfl ?_
       intro a hA
       refine qj hA rfl rfl rfl ?_
       intro a hA
       refine qa (v := .bool false) hA rfl rfl rfl (qi rfl rfl rfl rfl) ?_
       intro a hA
       refine qa hA rfl rfl rfl (qe rfl) ?_
       intro a hA
       refine qj hA rfl rfl rfl ?_
       intro a hA
       refine qj hA rfl rfl rfl ?_
       intro a hA
       refine qj hA rfl rfl rfl ?_
       intro a hA
       refine qj hA rfl rfl rfl ?_
       intro a hA
       refine qa (v := .bool false) hA rfl rfl rfl (qi rfl rfl rfl rfl) ?_
       intro a hA
       refine qa hA rfl rfl rfl (qe rfl) ?_
       intro a hA
       refine qj hA rfl rfl rfl ?_
       intro a hA
       refine qj hA rfl rfl rfl ?_
       intro a hA
       refine qj hA rfl rfl rfl ?_
       intro a hA
       refine qj hA rfl rfl rfl ?_
       intro a hA
       refine qa (v := .bool false) hA rfl rfl rfl (qi rfl rfl rfl rfl) ?_
       intro a hA
       refine qa hA rfl rfl rfl (qb rfl) ?_
       intro a hA
       refine qf ?_
       refine hK4 _ _ ?_
       refine wp_ret ?_
       refine hret _ _ ?_
       refine ze (v := .bool false) hA rfl (.cons (ql rfl) .nil) rfl ?_
       subst hr
       exact ⟨by unfold vq; simp_all, hM.bel⟩
   · refine qm hA rfl rfl rfl (qh rfl rfl (fun w => by kernel_rfl)) (ye h1 h2 hb6) ?_
     rintro _ w18 ⟨rfl, hb17⟩
     replace hM := hM.call hb17
     refine ⟨_, rfl, ?_⟩
     intro a hA
     refine qa (v := .bool false) hA rfl rfl rfl (qi rfl rfl rfl rfl) ?_
     intro a hA
     refine qa hA rfl rfl rfl (qe rfl) ?_
     intro a hA
     refine qj hA rfl rfl rfl ?_
     intro a hA
     refine qj hA rfl rfl rfl ?_
     intro a hA
     refine qj hA rfl rfl rfl ?_
     intro a hA
     refine qj hA rfl rfl rfl ?_
     intro a hA
     refine qa (v := .bool false) hA rfl rfl rfl (qi rfl rfl rfl rfl) ?_
     intro a hA
     refine qa hA rfl rfl rfl (qe rfl) ?_
     intro a hA
     refine qj hA rfl rfl rfl ?_
     intro a hA
     refine qj hA rfl rfl rfl ?_
     intro a hA
     refine qj hA rfl rfl rfl ?_
     intro a hA
     refine qa (v := .bool false) hA rfl rfl rfl (qi rfl rfl rfl rfl) ?_
     intro a hA
     refine qa hA rfl rfl rfl (qe rfl) ?_
     intro a hA
     refine qj hA rfl rfl rfl ?_
     intro a hA
     refine qj hA rfl rfl rfl ?_
     intro a hA
     refine qj hA rfl rfl rfl ?_
     intro a hA
     refine qj hA rfl rfl rfl ?_
     intro a hA
     refine qa (v := .bool false) hA rfl rfl rfl (qi rfl rfl rfl rfl) ?_
     intro a hA
     refine qa hA rfl rfl rfl (qe rfl) ?_
     intro a hA
     refine qj hA rfl rfl rfl ?_
     intro a hA
     refine qj hA rfl rfl rfl ?_
     intro a hA
     refine qj hA rfl rfl rfl ?_
     intro a hA
     refine qj hA rfl rfl rfl ?_
     intro a hA
     refine qa (v := .bool false) hA rfl rfl rfl (qi rfl rfl rfl rfl) ?_
     intro a hA
     refine qa hA rfl rfl rfl (qb rfl) ?_
     intro a hA
     refine qf ?_
     refine hK4 _ _ ?_
     refine wp_ret ?_
     refine hret _ _ ?_
     refine ze (v := .bool false) hA rfl (.cons (ql rfl) .nil) rfl ?_
     subst hr
     exact ⟨by unfold vq; simp_all, hM.bel⟩
 · have hb5' := ne_of_beq_false hb5
   refine qa (v := .bool false) hA rfl rfl rfl (qg rfl rfl (fun w => (za w).trans (by rw [hb5]))) ?_
   intro a hA
   refine qa hA rfl rfl rfl (qe rfl) ?_
   intro a hA
   refine qj hA rfl rfl rfl ?_
   intro a hA
   refine qj hA rfl rfl rfl ?_
   intro a hA
   refine qj hA rfl rfl rfl ?_
   intro a hA
   refine qj hA rfl rfl rfl ?_
   intro a hA
   refine qa (v := .bool false) hA rfl rfl rfl (qi rfl rfl rfl rfl) ?_
   intro a hA
   refine qa hA rfl rfl rfl (qe rfl) ?_
   intro a hA
   refine qj hA rfl rfl rfl ?_
   intro a hA
   refine qj hA rfl rfl rfl ?_
   intro a hA
   refine qj hA rfl rfl rfl ?_
   intro a hA
   refine qj hA rfl rfl rfl ?_
   intro a hA
   refine qa (v := .bool false) hA rfl rfl rfl (qi rfl rfl rfl rfl) ?_
   intro a hA
   refine qa hA rfl rfl rfl (qe rfl) ?_
   intro a hA
   refine qj hA rfl rfl rfl ?_
   intro a hA
   refine qj hA rfl rfl rfl ?_
   intro a hA
   refine qj hA rfl rfl rfl ?_
   intro a hA
   refine qa (v := .bool false) hA rfl rfl rfl (qi rfl rfl rfl rfl) ?_
   intro a hA
   refine qa hA rfl rfl rfl (qe rfl) ?_
   intro a hA
   refine qj hA rfl rfl rfl ?_
   intro a hA
   refine qj hA rfl rfl rfl ?_
   intro a hA
   refine qj hA rfl rfl rfl ?_
   intro a hA
   refine qj hA rfl rfl rfl ?_
   intro a hA
   refine qa (v := .bool false) hA rfl rfl rfl (qi rfl rfl rfl rfl) ?_
   intro a hA
   refine qa hA rfl rfl rfl (qe rfl) ?_
   intro a hA
   refine qj hA rfl rfl rfl ?_
   intro a hA
   refine qj hA rfl rfl rfl ?_
   intro a hA
   refine qj hA rfl rfl rfl ?_
   intro a hA
   refine qj hA rfl rfl rfl ?_
   intro a hA
   refine qa (v := .bool false) hA rfl rfl rfl (qi rfl rfl rfl rfl) ?_
   intro a hA
   refine qa hA rfl rfl rfl (qb rfl) ?_
   intro a hA
   refine qf ?_
   refine hK4 _ _ ?_
   refine wp_ret ?_
   refine hret _ _ ?_
   refine ze (v := .bool false) hA rfl (.cons (ql rfl) .nil) rfl ?_
   subst hr
   exact ⟨by unfold vq; simp_all, hM.bel⟩
theorem qja {w : World} {d : Nd} {ts : List Dt} (hok : NdOk w d) (hT : Tabs8 w) : Calls Tryz.prog 29 #[.agg (d.cells ts.length).toArray] w fun e w' => e = .returned (.bool (jo d.k d.n d.y.q d.s d.rl.length ts.length)) ∧ Below w.heap.size w w' := by
 have hq1 := hok.len.l1
 have hq2 := hok.len.l2
 have hq3 := hok.len.l3
 have hq4 := hok.len.l4
 have hM : Mg w w ([]) := Mg.start w
 refine zb (l := [(0, .agg (d.cells ts.length).toArray)]) Tryz.func29 rfl Tryz.ntmps29 rfl rfl ?_
 intro Q hret hnorm hP a hA
 refine wp_seq_k (fun K1 hK1 => ?_)
 refine wp_region_lit ?_
 refine jc (vs := [.int .i64 d.k, .int .i64 d.n, .bool d.y.q.b1, .slice d.y.o1 d.y.q.t1.length d.y.c1, .slice d.y.o2 d.y.q.q1.length d.y.c2, .bool d.y.q.b2, .slice d.y.o3 d.y.q.t2.length d.y.c3, .slice d.y.o4 d.y.q.q2.length d.y.c4, .string d.s, .slice d.ro d.rl.length d.rc, .slice d.lo ts.length d.lc]) (t := 31) hA hM rfl rfl rfl (fun g => .pointer (some ⟨g, 0, none⟩)) (zm rfl rfl) (by decide) ?_
 intro g2 w3 hM a hA
 refine qa hA rfl rfl rfl (qb rfl) ?_
 intro a hA
 refine qf ?_
 refine hK1 _ _ ?_
 refine wp_seq_k (fun K4 hK4 => ?_)
 refine wp_region_lit ?_
 refine qa hA rfl rfl rfl (qb rfl) ?_
 intro a hA
 refine qf ?_
 refine hK4 _ _ ?_
 refine wp_seq_k (fun K5 hK5 => ?_)
 have hJ6 : ∀ a w1, (∃ (ok : Bool) (z1 : Int) (z2 : Bool) (y1 : Option Addr) (m1 : Nat) (e1 : Nat) (y2 : Option Addr) (m2 : Nat) (e2 : Nat) (z3 : Bool) (y3 : Option Addr) (m3 : Nat) (e3 : Nat) (y4 : Option Addr) (m4 : Nat) (e4 : Nat) (zs : ByteArray) (yr : Option Addr) (mr : Nat) (er : Nat) (yl : Option Addr) (ml : Nat) (el : Nat), (jo d.k d.n d.y.q d.s d.rl.length ts.length = (ok && vq z1 z2 m1 m2 z3 m3 m4 zs mr ml) ∧ m1 ≤ 9223372036854775807 ∧ m2 ≤ 9223372036854775807 ∧ m3 ≤ 9223372036854775807 ∧ m4 ≤ 9223372036854775807) ∧ Sl a 59 [(0, .agg (d.cells ts.length).toArray), (1, .pointer (some ⟨g2, 0, none⟩)), (2, .bool false), (3, .bool ok)] ∧ Mg w w1 (.obj g2 (.cells #[.int .i64 d.k, .int .i64 z1, .bool z2, .slice y1 m1 e1, .slice y2 m2 e2, .bool z3, .slice y3 m3 e3, .slice y4 m4 e4, .string zs, .slice yr mr er, .slice yl ml el] 31) :: [])) → K5 a w1 := by
   clear hA hM
   rintro a w7 ⟨ok, z1, z2, y1, m1, e1, y2, m2, e2, z3, y3, m3, e3, y4, m4, e4, zs, yr, mr, er, yl, ml, el, hf8, hA, hM⟩
   obtain ⟨hsh, hq1, hq2, hq3, hq4⟩ := hf8
   refine hK5 _ _ ?_
   refine wp_seq_k (fun K9 hK9 => ?_)
   refine wp_region_lit ?_
   refine qa hA rfl rfl rfl (qe rfl) ?_
   intro a hA
   refine qa hA rfl rfl rfl (qe rfl) ?_
   intro a hA
   rcases ok with _ | _
   · refine qj hA rfl rfl rfl ?_
     intro a hA
     refine qj hA rfl rfl rfl ?_
     intro a hA
     refine qa (v := .bool false) hA rfl rfl rfl (qi rfl rfl rfl rfl) ?_
     intro a hA
     refine qa hA rfl rfl rfl (qb rfl) ?_
     intro a hA
     refine qf ?_
     refine hK9 _ _ ?_
     refine wp_ret ?_
     refine hret _ _ ?_
     refine ze (v := .bool false) hA rfl (.cons (ql rfl) .nil) rfl ?_
     exact ⟨by rw [hsh]; rfl, hM.bel⟩
   · refine qa hA rfl rfl rfl (jf hM TrB_isS_31 rfl 0 rfl (cs := [.int .i64 d.k, .int .i64 z1, .bool z2, .slice y1 m1 e1, .slice y2 m2 e2, .bool z3, .slice y3 m3 e3, .slice y4 m4 e4, .string zs, .slice yr mr er, .slice yl ml el]) rfl rfl) ?_
     intro a hA
     refine qm hA rfl rfl rfl (qh rfl rfl (fun w => by kernel_rfl)) (bare_any (by first | exact hq1 | omega) (by first | exact hq2 | omega) (by first | exact hq3 | omega) (by first | exact hq4 | omega) rfl) ?_
     rintro _ w11 ⟨rfl, hb10⟩
     replace hM := hM.call hb10
     refine ⟨_, rfl, ?_⟩
     intro a hA
     refine qa (v := .bool (vq z1 z2 m1 m2 z3 m3 m4 zs mr ml)) hA rfl rfl rfl (qi rfl rfl rfl rfl) ?_
     intro a hA
     refine qa hA rfl rfl rfl (qb rfl) ?_
     intro a hA
     refine qf ?_
     refine hK9 _ _ ?_
     refine wp_ret ?_
     refine hret _ _ ?_
     refine ze (v := .bool (vq z1 z2 m1 m2 z3 m3 m4 zs mr ml)) hA rfl (.cons (ql rfl) .nil) rfl ?_
     exact ⟨by rw [hsh]; rfl, hM.bel⟩
 refine wp_seq_k (fun K12 hK12 => ?_)
 refine wp_region_lit ?_
 refine qa (v := .pointer (some ⟨g2, 0, none⟩)) hA rfl rfl rfl (qk TrB_fld_31_0 rfl rfl) ?_
 intro a hA
 refine qa hA rfl rfl rfl (zk hM TrB_is1_3 rfl 0 rfl rfl) ?_
 intro a hA
 refine qf ?_
 refine hK12 _ _ ?_
 refine wp_block ?_
 refine wp_seq_k (fun K13 hK13 => ?_)
 refine wp_seq_k (fun K14 hK14 => ?_)
 refine wp_region_lit ?_
 rcases Bool.eq_false_or_eq_true ((d.k == 1)) with hb15 | hb15
 · have hb15' := eq_of_beq hb15
   refine qa (v := .bool true) hA rfl rfl rfl (qg rfl rfl (fun w => (za w).trans (by rw [hb15]))) ?_
   intro a hA
   refine qa hA rfl rfl rfl (qb rfl) ?_
   intro a hA
   refine qf ?_
   refine hK14 _ _ ?_
   refine wp_cond_true (hA.ev rfl) ?_
   refine wp_skip ?_
   refine hK13 _ _ ?_
   refine wp_cond_true (hA.ev rfl) ?_
   refine wp_skip ?_
   exact hJ6 _ _ ⟨true, d.n, d.y.q.b1, d.y.o1, d.y.q.t1.length, d.y.c1, d.y.o2, d.y.q.q1.length, d.y.c2, d.y.q.b2, d.y.o3, d.y.q.t2.length, d.y.c3, d.y.o4, d.y.q.q2.length, d.y.c4, d.s, d.ro, d.rl.length, d.rc, d.lo, ts.length, d.lc, ⟨by
     unfold jo
     repeat (first | rw [if_pos (by omega)] | rw [if_neg (by omega)])
     first | rfl, by first | exact hq1 | decide, by first | exact hq2 | decide, by first | exact hq3 | decide, by first | exact hq4 | decide⟩, hA.keep _ ⟨rfl, rfl, rfl, rfl, trivial⟩, hM⟩
 · have hb15' := ne_of_beq_false hb15
   refine qa (v := .bool false) hA rfl rfl rfl (qg rfl rfl (fun w => (za w).trans (by rw [hb15]))) ?_
   intro a hA
   refine qa hA rfl rfl rfl (qb rfl) ?_
   intro a hA
   refine qf ?_
   refine hK14 _ _ ?_
   refine wp_cond_false (hA.ev rfl) ?_
   refine wp_region_lit ?_
   rcases Bool.eq_false_or_eq_true ((d.k == 10)) with hb16 | hb16
   · have hb16' := eq_of_beq hb16
     refine qa (v := .bool true) hA rfl rfl rfl (qg rfl rfl (fun w => (za w).trans (by rw [hb16]))) ?_
     intro a hA
     refine qa hA rfl rfl rfl (qb rfl) ?_
     intro a hA
     refine qf ?_
     refine hK13 _ _ ?_
     refine wp_cond_true (hA.ev rfl) ?_
     refine wp_skip ?_
     exact hJ6 _ _ ⟨true, d.n, d.y.q.b1, d.y.o1, d.y.q.t1.length, d.y.c1, d.y.o2, d.y.q.q1.length, d.y.c2, d.y.q.b2, d.y.o3, d.y.q.t2.length, d.y.c3, d.y.o4, d.y.q.q2.length, d.y.c4, d.s, d.ro, d.rl.length, d.rc, d.lo, ts.length, d.lc, ⟨by
       unfold jo
       repeat (first | rw [if_pos (by omega)] | rw [if_neg (by omega)])
       first | rfl, by first | exact hq1 | decide, by first | exact hq2 | decide, by first | exact hq3 | decide, by first | exact hq4 | decide⟩, hA.keep _ ⟨rfl, rfl, rfl, rfl, trivial⟩, hM⟩
   · have hb16' := ne_of_beq_false hb16
     refine qa (v := .bool false) hA rfl rfl rfl (qg rfl rfl (fun w => (za w).trans (by rw [hb16]))) ?_
     intro a hA
     refine qa hA rfl rfl rfl (qb rfl) ?_
     intro a hA
     refine qf ?_
     refine hK13 _ _ ?_
     refine wp_cond_false (hA.ev rfl) ?_
     refine wp_seq_k (fun K17 hK17 => ?_)
     refine wp_region_lit ?_
     rcases Bool.eq_false_or_eq_true ((d.k == 2)) with hb18 | hb18
     · have hb18' := eq_of_beq hb18
       refine qa (v := .bool true) hA rfl rfl rfl (qg rfl rfl (fun w => (za w).trans (by rw [hb18]))) ?_
       intro a hA
       refine qa hA rfl rfl rfl (qb rfl) ?_
       intro a hA
       refine qf ?_
       refine hK17 _ _ ?_
       refine wp_cond_true (hA.ev rfl) ?_
       refine wp_region_lit ?_
       refine qa (v := .pointer (some ⟨g2, 1, none⟩)) hA rfl rfl rfl (qk TrB_fld_31_1 rfl rfl) ?_
       intro a hA
       refine qa hA rfl rfl rfl (zk hM TrB_is1_3 rfl 0 rfl rfl) ?_
       intro a hA
       rcases Bool.eq_false_or_eq_true ((d.n == 0)) with hb19 | hb19
       · have hb19' := eq_of_beq hb19
         refine qa (v := .bool true) hA rfl rfl rfl (qg rfl rfl (fun w => (za w).trans (by rw [hb19]))) ?_
         intro a hA
         refine qa hA rfl rfl rfl (qe rfl) ?_
         intro a hA
         refine qj hA rfl rfl rfl ?_
         intro a hA
         refine qj hA rfl rfl rfl ?_
         intro a hA
         refine qj hA rfl rfl rfl ?_
         intro a hA
         refine qa (v := .bool true) hA rfl rfl rfl (qi rfl rfl rfl rfl) ?_
         intro a hA
         refine qa hA rfl rfl rfl (qb rfl) ?_
         intro a hA
         refine qa (v := .pointer (some ⟨g2, 1, none⟩)) hA rfl rfl rfl (qk TrB_fld_31_1 rfl rfl) ?_
         intro a hA
         refine zq (us := [.int .i64 d.k, .int .i64 0, .bool d.y.q.b1, .slice d.y.o1 d.y.q.t1.length d.y.c1, .slice d.y.o2 d.y.q.q1.length d.y.c2, .bool d.y.q.b2, .slice d.y.o3 d.y.q.t2.length d.y.c3, .slice d.y.o4 d.y.q.q2.length d.y.c4, .string d.s, .slice d.ro d.rl.length d.rc, .slice d.lo ts.length d.lc]) (L' := (.obj g2 (.cells #[.int .i64 d.k, .int .i64 0, .bool d.y.q.b1, .slice d.y.o1 d.y.q.t1.length d.y.c1, .slice d.y.o2 d.y.q.q1.length d.y.c2, .bool d.y.q.b2, .slice d.y.o3 d.y.q.t2.length d.y.c3, .slice d.y.o4 d.y.q.q2.length d.y.c4, .string d.s, .slice d.ro d.rl.length d.rc, .slice d.lo ts.length d.lc] 31) :: [])) hA hM rfl rfl (zh rfl rfl rfl (by kernel_rfl) hM 0 rfl rfl rfl) 0 rfl rfl rfl ?_
         intro w20 hM
         refine qf ?_
         exact hJ6 _ _ ⟨true, 0, d.y.q.b1, d.y.o1, d.y.q.t1.length, d.y.c1, d.y.o2, d.y.q.q1.length, d.y.c2, d.y.q.b2, d.y.o3, d.y.q.t2.length, d.y.c3, d.y.o4, d.y.q.q2.length, d.y.c4, d.s, d.ro, d.rl.length, d.rc, d.lo, ts.length, d.lc, ⟨by
           unfold jo
           repeat (first | rw [if_pos (by omega)] | rw [if_neg (by omega)])
           first | rfl | (rw [decide_eq_true (show (d.n = 0 ∨ d.n = 1) by omega)]), by first | exact hq1 | decide, by first | exact hq2 | decide, by first | exact hq3 | decide, by first | exact hq4 | decide⟩, hA.keep _ ⟨rfl, rfl, rfl, rfl, trivial⟩, hM⟩
       · have hb19' := ne_of_beq_false hb19
         refine qa (v := .bool false) hA rfl rfl rfl (qg rfl rfl (fun w => (za w).trans (by rw [hb19]))) ?_
         intro a hA
         refine qa hA rfl rfl rfl (qe rfl) ?_
         intro a hA
         refine qa (v := .pointer (some ⟨g2, 1, none⟩)) hA rfl rfl rfl (qk TrB_fld_31_1 rfl rfl) ?_
         intro a hA
         refine qa hA rfl rfl rfl (zk hM TrB_is1_3 rfl 0 rfl rfl) ?_
         intro a hA
         rcases Bool.eq_false_or_eq_true ((d.n == 1)) with hb21 | hb21
         · have hb21' := eq_of_beq hb21
           refine qa (v := .bool true) hA rfl rfl rfl (qg rfl rfl (fun w => (za w).trans (by rw [hb21]))) ?_
           intro a hA
           refine qa (v := .bool true) hA rfl rfl rfl (qi rfl rfl rfl rfl) ?_
           intro a hA
           refine qa hA rfl rfl rfl (qb rfl) ?_
           intro a hA
           refine qa (v := .pointer (some ⟨g2, 1, none⟩)) hA rfl rfl rfl (qk TrB_fld_31_1 rfl rfl) ?_
           intro a hA
           refine zq (us := [.int .i64 d.k, .int .i64 0, .bool d.y.q.b1, .slice d.y.o1 d.y.q.t1.length d.y.c1, .slice d.y.o2 d.y.q.q1.length d.y.c2, .bool d.y.q.b2, .slice d.y.o3 d.y.q.t2.length d.y.c3, .slice d.y.o4 d.y.q.q2.length d.y.c4, .string d.s, .slice d.ro d.rl.length d.rc, .slice d.lo ts.length d.lc]) (L' := (.obj g2 (.cells #[.int .i64 d.k, .int .i64 0, .bool d.y.q.b1, .slice d.y.o1 d.y.q.t1.length d.y.c1, .slice d.y.o2 d.y.q.q1.length d.y.c2, .bool d.y.q.b2, .slice d.y.o3 d.y.q.t2.length d.y.c3, .slice d.y.o4 d.y.q.q2.length d.y.c4, .string d.s, .slice d.ro d.rl.length d.rc, .slice d.lo ts.length d.lc] 31) :: [])) hA hM rfl rfl (zh rfl rfl rfl (by kernel_rfl) hM 0 rfl rfl rfl) 0 rfl rfl rfl ?_
           intro w22 hM
           refine qf ?_
           exact hJ6 _ _ ⟨true, 0, d.y.q.b1, d.y.o1, d.y.q.t1.length, d.y.c1, d.y.o2, d.y.q.q1.length, d.y.c2, d.y.q.b2, d.y.o3, d.y.q.t2.length, d.y.c3, d.y.o4, d.y.q.q2.length, d.y.c4, d.s, d.ro, d.rl.length, d.rc, d.lo, ts.length, d.lc, ⟨by
             unfold jo
             repeat (first | rw [if_pos (by omega)] | rw [if_neg (by omega)])
             first | rfl | (rw [decide_eq_true (show (d.n = 0 ∨ d.n = 1) by omega)]), by first | exact hq1 | decide, by first | exact hq2 | decide, by first | exact hq3 | decide, by first | exact hq4 | decide⟩, hA.keep _ ⟨rfl, rfl, rfl, rfl, trivial⟩, hM⟩
         · have hb21' := ne_of_beq_false hb21
           refine qa (v := .bool false) hA rfl rfl rfl (qg rfl rfl (fun w => (za w).trans (by rw [hb21]))) ?_
           intro a hA
           refine qa (v := .bool false) hA rfl rfl rfl (qi rfl rfl rfl rfl) ?_
           intro a hA
           refine qa hA rfl rfl rfl (qb rfl) ?_
           intro a hA
           refine qa (v := .pointer (some ⟨g2, 1, none⟩)) hA rfl rfl rfl (qk TrB_fld_31_1 rfl rfl) ?_
           intro a hA
           refine zq (us := [.int .i64 d.k, .int .i64 0, .bool d.y.q.b1, .slice d.y.o1 d.y.q.t1.length d.y.c1, .slice d.y.o2 d.y.q.q1.length d.y.c2, .bool d.y.q.b2, .slice d.y.o3 d.y.q.t2.length d.y.c3, .slice d.y.o4 d.y.q.q2.length d.y.c4, .string d.s, .slice d.ro d.rl.length d.rc, .slice d.lo ts.length d.lc]) (L' := (.obj g2 (.cells #[.int .i64 d.k, .int .i64 0, .bool d.y.q.b1, .slice d.y.o1 d.y.q.t1.length d.y.c1, .slice d.y.o2 d.y.q.q1.length d.y.c2, .bool d.y.q.b2, .slice d.y.o3 d.y.q.t2.length d.y.c3, .slice d.y.o4 d.y.q.q2.length d.y.c4, .string d.s, .slice d.ro d.rl.length d.rc, .slice d.lo ts.length d.lc] 31) :: [])) hA hM rfl rfl (zh rfl rfl rfl (by kernel_rfl) hM 0 rfl rfl rfl) 0 rfl rfl rfl ?_
           intro w23 hM
           refine qf ?_
           exact hJ6 _ _ ⟨false, 0, d.y.q.b1, d.y.o1, d.y.q.t1.length, d.y.c1, d.y.o2, d.y.q.q1.length, d.y.c2, d.y.q.b2, d.y.o3, d.y.q.t2.length, d.y.c3, d.y.o4, d.y.q.q2.length, d.y.c4, d.s, d.ro, d.rl.length, d.rc, d.lo, ts.length, d.lc, ⟨by
             unfold jo
             repeat (first | rw [if_pos (by omega)] | rw [if_neg (by omega)])
             first | rfl | (rw [decide_eq_false (show ¬ (d.n = 0 ∨ d.n = 1) by omega)]), by first | exact hq1 | decide, by first | exact hq2 | decide, by first | exact hq3 | decide, by first | exact hq4 | decide⟩, hA.keep _ ⟨rfl, rfl, rfl, rfl, trivial⟩, hM⟩
     · have hb18' := ne_of_beq_false hb18
       refine qa (v := .bool false) hA rfl rfl rfl (qg rfl rfl (fun w => (za w).trans (by rw [hb18]))) ?_
       intro a hA
       refine qa hA rfl rfl rfl (qb rfl) ?_
       intro a hA
       refine qf ?_
       refine hK17 _ _ ?_
       refine wp_cond_false (hA.ev rfl) ?_
       refine wp_seq_k (fun K24 hK24 => ?_)
       refine wp_region_lit ?_
       rcases Bool.eq_false_or_eq_true ((d.k == 3)) with hb25 | hb25
       · have hb25' := eq_of_beq hb25
         refine qa (v := .bool true) hA rfl rfl rfl (qg rfl rfl (fun w => (za w).trans (by rw [hb25]))) ?_
         intro a hA
         refine qa hA rfl rfl rfl (qb rfl) ?_
         intro a hA
         refine qf ?_
         refine hK24 _ _ ?_
         refine wp_cond_true (hA.ev rfl) ?_
         refine wp_region_lit ?_
         refine qa (v := .pointer (some ⟨g2, 2, none⟩)) hA rfl rfl rfl (qk TrB_fld_31_2 rfl rfl) ?_
         intro a hA
         refine qa hA rfl rfl rfl (jf hM TrB_isS_27 rfl 0 rfl (cs := [.bool d.y.q.b1, .slice d.y.o1 d.y.q.t1.length d.y.c1, .slice d.y.o2 d.y.q.q1.length d.y.c2, .bool d.y.q.b2, .slice d.y.o3 d.y.q.t2.length d.y.c3, .slice d.y.o4 d.y.q.q2.length d.y.c4]) rfl rfl) ?_
         intro a hA
         rcases Bool.eq_false_or_eq_true (xd d.y.q) with hb26 | hb26
         · refine qm hA rfl rfl rfl (qh rfl rfl (fun w => by kernel_rfl)) (ve (Nu.below hok.num hM.bel) hok.len hb26) ?_
           rintro _ w28 ⟨rfl, hb27⟩
           replace hM := hM.call hb27
           refine ⟨_, rfl, ?_⟩
           intro a hA
           refine qa (v := .agg #[.bool false, .slice none 0 0, .slice none 0 0, .bool false, .slice none 0 0, .slice none 0 0]) hA rfl rfl rfl (jt rfl (fun w => by kernel_rfl)) ?_
           intro a hA
           refine qa hA rfl rfl rfl (qb rfl) ?_
           intro a hA
           refine qa (v := .pointer (some ⟨g2, 2, none⟩)) hA rfl rfl rfl (qk TrB_fld_31_2 rfl rfl) ?_
           intro a hA
           refine zq (us := [.int .i64 d.k, .int .i64 d.n, .bool false, .slice none 0 0, .slice none 0 0, .bool false, .slice none 0 0, .slice none 0 0, .string d.s, .slice d.ro d.rl.length d.rc, .slice d.lo ts.length d.lc]) (L' := (.obj g2 (.cells #[.int .i64 d.k, .int .i64 d.n, .bool false, .slice none 0 0, .slice none 0 0, .bool false, .slice none 0 0, .slice none 0 0, .string d.s, .slice d.ro d.rl.length d.rc, .slice d.lo ts.length d.lc] 31) :: [])) hA hM rfl rfl (zh rfl rfl rfl (by kernel_rfl) hM 0 rfl rfl rfl) 0 rfl rfl rfl ?_
           intro w29 hM
           refine qf ?_
           exact hJ6 _ _ ⟨true, d.n, false, none, 0, 0, none, 0, 0, false, none, 0, 0, none, 0, 0, d.s, d.ro, d.rl.length, d.rc, d.lo, ts.length, d.lc, ⟨by
             unfold jo
             repeat (first | rw [if_pos (by omega)] | rw [if_neg (by omega)])
             first | rfl | rw [hb26], by first | exact hq1 | decide, by first | exact hq2 | decide, by first | exact hq3 | decide, by first | exact hq4 | decide⟩, hA.keep _ ⟨rfl, rfl, rfl, rfl, trivial⟩, hM⟩
         · refine qm hA rfl rfl rfl (qh rfl rfl (fun w => by kernel_rfl)) (ve (Nu.below hok.num hM.bel) hok.len hb26) ?_
           rintro _ w31 ⟨rfl, hb30⟩
           replace hM := hM.call hb30
           refine ⟨_, rfl, ?_⟩
           intro a hA
           refine qa (v := .agg #[.bool false, .slice none 0 0, .slice none 0 0, .bool false, .slice none 0 0, .slice none 0 0]) hA rfl rfl rfl (jt rfl (fun w => by kernel_rfl)) ?_
           intro a hA
           refine qa hA rfl rfl rfl (qb rfl) ?_
           intro a hA
           refine qa (v := .pointer (some ⟨g2, 2, none⟩)) hA rfl rfl rfl (qk TrB_fld_31_2 rfl rfl) ?_
           intro a hA
           refine zq (us := [.int .i64 d.k, .int .i64 d.n, .bool false, .slice none 0 0, .slice none 0 0, .bool false, .slice none 0 0, .slice none 0 0, .string d.s, .slice d.ro d.rl.length d.rc, .slice d.lo ts.length d.lc]) (L' := (.obj g2 (.cells #[.int .i64 d.k, .int .i64 d.n, .bool false, .slice none 0 0, .slice none 0 0, .bool false, .slice none 0 0, .slice none 0 0, .string d.s, .slice d.ro d.rl.length d.rc, .slice d.lo ts.length d.lc] 31) :: [])) hA hM rfl rfl (zh rfl rfl rfl (by kernel_rfl) hM 0 rfl rfl rfl) 0 rfl rfl rfl ?_
           intro w32 hM
           refine qf ?_
           exact hJ6 _ _ ⟨false, d.n, false, none, 0, 0, none, 0, 0, false, none, 0, 0, none, 0, 0, d.s, d.ro, d.rl.length, d.rc, d.lo, ts.length, d.lc, ⟨by
             unfold jo
             repeat (first | rw [if_pos (by omega)] | rw [if_neg (by omega)])
             first | rfl | rw [hb26], by first | exact hq1 | decide, by first | exact hq2 | decide, by first | exact hq3 | decide, by first | exact hq4 | decide⟩, hA.keep _ ⟨rfl, rfl, rfl, rfl, trivial⟩, hM⟩
       · have hb25' := ne_of_beq_false hb25
         refine qa (v := .bool false) hA rfl rfl rfl (qg rfl rfl (fun w => (za w).trans (by rw [hb25]))) ?_
         intro a hA
         refine qa hA rfl rfl rfl (qb rfl) ?_
         intro a hA
         refine qf ?_
         refine hK24 _ _ ?_
         refine wp_cond_false (hA.ev rfl) ?_
         refine wp_seq_k (fun K33 hK33 => ?_)
         refine wp_region_lit ?_
         rcases Bool.eq_false_or_eq_true ((d.k == 4)) with hb34 | hb34
         · have hb34' := eq_of_beq hb34
           refine qa (v := .bool true) hA rfl rfl rfl (qg rfl rfl (fun w => (za w).trans (by rw [hb34]))) ?_
           intro a hA
           refine qa hA rfl rfl rfl (qb rfl) ?_
           intro a hA
           refine qf ?_
           refine hK33 _ _ ?_
           refine wp_cond_true (hA.ev rfl) ?_
           refine wp_region_lit ?_
           refine qa (v := .pointer (some ⟨g2, 1, none⟩)) hA rfl rfl rfl (qk TrB_fld_31_1 rfl rfl) ?_
           intro a hA
           refine qa hA rfl rfl rfl (zk hM TrB_is1_3 rfl 0 rfl rfl) ?_
           intro a hA
           rcases Bool.eq_false_or_eq_true (kz d.n) with hb35 | hb35
           · refine qm hA rfl rfl rfl (qh rfl rfl (fun w => by kernel_rfl)) ((hb35 ▸ isCh_any)) ?_
             rintro _ w37 ⟨rfl, hb36⟩
             replace hM := hM.call hb36
             refine ⟨_, rfl, ?_⟩
             intro a hA
             refine qa hA rfl rfl rfl (qb rfl) ?_
             intro a hA
             refine qa (v := .pointer (some ⟨g2, 1, none⟩)) hA rfl rfl rfl (qk TrB_fld_31_1 rfl rfl) ?_
             intro a hA
             refine zq (us := [.int .i64 d.k, .int .i64 0, .bool d.y.q.b1, .slice d.y.o1 d.y.q.t1.length d.y.c1, .slice d.y.o2 d.y.q.q1.length d.y.c2, .bool d.y.q.b2, .slice d.y.o3 d.y.q.t2.length d.y.c3, .slice d.y.o4 d.y.q.q2.length d.y.c4, .string d.s, .slice d.ro d.rl.length d.rc, .slice d.lo ts.length d.lc]) (L' := (.obj g2 (.cells #[.int .i64 d.k, .int .i64 0, .bool d.y.q.b1, .slice d.y.o1 d.y.q.t1.length d.y.c1, .slice d.y.o2 d.y.q.q1.length d.y.c2, .bool d.y.q.b2, .slice d.y.o3 d.y.q.t2.length d.y.c3, .slice d.y.o4 d.y.q.q2.length d.y.c4, .string d.s, .slice d.ro d.rl.length d.rc, .slice d.lo ts.length d.lc] 31) :: [])) hA hM rfl rfl (zh rfl rfl rfl (by kernel_rfl) hM 0 rfl rfl rfl) 0 rfl rfl rfl ?_
             intro w38 hM
             refine qf ?_
             exact hJ6 _ _ ⟨true, 0, d.y.q.b1, d.y.o1, d.y.q.t1.length, d.y.c1, d.y.o2, d.y.q.q1.length, d.y.c2, d.y.q.b2, d.y.o3, d.y.q.t2.length, d.y.c3, d.y.o4, d.y.q.q2.length, d.y.c4, d.s, d.ro, d.rl.length, d.rc, d.lo, ts.length, d.lc, ⟨by
               unfold jo
               repeat (first | rw [if_pos (by omega)] | rw [if_neg (by omega)])
               first | rfl | rw [hb35], by first | exact hq1 | decide, by first | exact hq2 | decide, by first | exact hq3 | decide, by first | exact hq4 | decide⟩, hA.keep _ ⟨rfl, rfl, rfl, rfl, trivial⟩, hM⟩
           · refine qm hA rfl rfl rfl (qh rfl rfl (fun w => by kernel_rfl)) ((hb35 ▸ isCh_any)) ?_
             rintro _ w40 ⟨rfl, hb39⟩
             replace hM := hM.call hb39
             refine ⟨_, rfl, ?_⟩
             intro a hA
             refine qa hA rfl rfl rfl (qb rfl) ?_
             intro a hA
             refine qa (v := .pointer (some ⟨g2, 1, none⟩)) hA rfl rfl rfl (qk TrB_fld_31_1 rfl rfl) ?_
             intro a hA
             refine zq (us := [.int .i64 d.k, .int .i64 0, .bool d.y.q.b1, .slice d.y.o1 d.y.q.t1.length d.y.c1, .slice d.y.o2 d.y.q.q1.length d.y.c2, .bool d.y.q.b2, .slice d.y.o3 d.y.q.t2.length d.y.c3, .slice d.y.o4 d.y.q.q2.length d.y.c4, .string d.s, .slice d.ro d.rl.length d.rc, .slice d.lo ts.length d.lc]) (L' := (.obj g2 (.cells #[.int .i64 d.k, .int .i64 0, .bool d.y.q.b1, .slice d.y.o1 d.y.q.t1.length d.y.c1, .slice d.y.o2 d.y.q.q1.length d.y.c2, .bool d.y.q.b2, .slice d.y.o3 d.y.q.t2.length d.y.c3, .slice d.y.o4 d.y.q.q2.length d.y.c4, .string d.s, .slice d.ro d.rl.length d.rc, .slice d.lo ts.length d.lc] 31) :: [])) hA hM rfl rfl (zh rfl rfl rfl (by kernel_rfl) hM 0 rfl rfl rfl) 0 rfl rfl rfl ?_
             intro w41 hM
             refine qf ?_
             exact hJ6 _ _ ⟨false, 0, d.y.q.b1, d.y.o1, d.y.q.t1.length, d.y.c1, d.y.o2, d.y.q.q1.length, d.y.c2, d.y.q.b2, d.y.o3, d.y.q.t2.length, d.y.c3, d.y.o4, d.y.q.q2.length, d.y.c4, d.s, d.ro, d.rl.length, d.rc, d.lo, ts.length, d.lc, ⟨by
               unfold jo
               repeat (first | rw [if_pos (by omega)] | rw [if_neg (by omega)])
               first | rfl | rw [hb35], by first | exact hq1 | decide, by first | exact hq2 | decide, by first | exact hq3 | decide, by first | exact hq4 | decide⟩, hA.keep _ ⟨rfl, rfl, rfl, rfl, trivial⟩, hM⟩
         · have hb34' := ne_of_beq_false hb34
           refine qa (v := .bool false) hA rfl rfl rfl (qg rfl rfl (fun w => (za w).trans (by rw [hb34]))) ?_
           intro a hA
           refine qa hA rfl rfl rfl (qb rfl) ?_
           intro a hA
           refine qf ?_
           refine hK33 _ _ ?_
           refine wp_cond_false (hA.ev rfl) ?_
           refine wp_seq_k (fun K42 hK42 => ?_)
           refine wp_seq_k (fun K43 hK43 => ?_)
           refine wp_region_lit ?_
           rcases Bool.eq_false_or_eq_true ((d.k == 5)) with hb44 | hb44
           · have hb44' := eq_of_beq hb44
             refine qa (v := .bool true) hA rfl rfl rfl (qg rfl rfl (fun w => (za w).trans (by rw [hb44]))) ?_
             intro a hA
             refine qa hA rfl rfl rfl (qb rfl) ?_
             intro a hA
             refine qf ?_
             refine hK43 _ _ ?_
             refine wp_cond_true (hA.ev rfl) ?_
             refine wp_skip ?_
             refine hK42 _ _ ?_
             refine wp_cond_true (hA.ev rfl) ?_
             refine wp_region_lit ?_
             refine qa (v := .pointer (some ⟨g2, 8, none⟩)) hA rfl rfl rfl (qk TrB_fld_31_3 rfl rfl) ?_
             intro a hA
             refine qa hA rfl rfl rfl (zk hM TrB_is1_9 rfl 0 rfl rfl) ?_
             intro a hA
             rcases Bool.eq_false_or_eq_true (okS d.s) with hb45 | hb45
             · refine qm hA rfl rfl rfl (qh rfl rfl (fun w => by kernel_rfl)) (yj hok.smax (hT.below hM.bel) hb45) ?_
               rintro _ w47 ⟨rfl, hb46⟩
               replace hM := hM.call hb46
               refine ⟨_, rfl, ?_⟩
               intro a hA
               refine qa hA rfl rfl rfl (qb rfl) ?_
               intro a hA
               refine qa (v := .pointer (some ⟨g2, 8, none⟩)) hA rfl rfl rfl (qk TrB_fld_31_3 rfl rfl) ?_
               intro a hA
               refine zq (us := [.int .i64 d.k, .int .i64 d.n, .bool d.y.q.b1, .slice d.y.o1 d.y.q.t1.length d.y.c1, .slice d.y.o2 d.y.q.q1.length d.y.c2, .bool d.y.q.b2, .slice d.y.o3 d.y.q.t2.length d.y.c3, .slice d.y.o4 d.y.q.q2.length d.y.c4, .string (⟨#[]⟩), .slice d.ro d.rl.length d.rc, .slice d.lo ts.length d.lc]) (L' := (.obj g2 (.cells #[.int .i64 d.k, .int .i64 d.n, .bool d.y.q.b1, .slice d.y.o1 d.y.q.t1.length d.y.c1, .slice d.y.o2 d.y.q.q1.length d.y.c2, .bool d.y.q.b2, .slice d.y.o3 d.y.q.t2.length d.y.c3, .slice d.y.o4 d.y.q.q2.length d.y.c4, .string (⟨#[]⟩), .slice d.ro d.rl.length d.rc, .slice d.lo ts.length d.lc] 31) :: [])) hA hM rfl rfl (zh rfl rfl rfl (by kernel_rfl) hM 0 rfl rfl rfl) 0 rfl rfl rfl ?_
               intro w48 hM
               refine qf ?_
               exact hJ6 _ _ ⟨true, d.n, d.y.q.b1, d.y.o1, d.y.q.t1.length, d.y.c1, d.y.o2, d.y.q.q1.length, d.y.c2, d.y.q.b2, d.y.o3, d.y.q.t2.length, d.y.c3, d.y.o4, d.y.q.q2.length, d.y.c4, ⟨#[]⟩, d.ro, d.rl.length, d.rc, d.lo, ts.length, d.lc, ⟨by
                 unfold jo
                 repeat (first | rw [if_pos (by omega)] | rw [if_neg (by omega)])
                 first | rfl | rw [hb45], by first | exact hq1 | decide, by first | exact hq2 | decide, by first | exact hq3 | decide, by first | exact hq4 | decide⟩, hA.keep _ ⟨rfl, rfl, rfl, rfl, trivial⟩, hM⟩
             · refine qm hA rfl rfl rfl (qh rfl rfl (fun w => by kernel_rfl)) (yj hok.smax (hT.below hM.bel) hb45) ?_
               rintro _ w50 ⟨rfl, hb49⟩
               replace hM := hM.call hb49
               refine ⟨_, rfl, ?_⟩
               intro a hA
               refine qa hA rfl rfl rfl (qb rfl) ?_
               intro a hA
               refine qa (v := .pointer (some ⟨g2, 8, none⟩)) hA rfl rfl rfl (qk TrB_fld_31_3 rfl rfl) ?_
               intro a hA
               refine zq (us := [.int .i64 d.k, .int .i64 d.n, .bool d.y.q.b1, .slice d.y.o1 d.y.q.t1.length d.y.c1, .slice d.y.o2 d.y.q.q1.length d.y.c2, .bool d.y.q.b2, .slice d.y.o3 d.y.q.t2.length d.y.c3, .slice d.y.o4 d.y.q.q2.length d.y.c4, .string (⟨#[]⟩), .slice d.ro d.rl.length d.rc, .slice d.lo ts.length d.lc]) (L' := (.obj g2 (.cells #[.int .i64 d.k, .int .i64 d.n, .bool d.y.q.b1, .slice d.y.o1 d.y.q.t1.length d.y.c1, .slice d.y.o2 d.y.q.q1.length d.y.c2, .bool d.y.q.b2, .slice d.y.o3 d.y.q.t2.length d.y.c3, .slice d.y.o4 d.y.q.q2.length d.y.c4, .string (⟨#[]⟩), .slice d.ro d.rl.length d.rc, .slice d.lo ts.length d.lc] 31) :: [])) hA hM rfl rfl (zh rfl rfl rfl (by kernel_rfl) hM 0 rfl rfl rfl) 0 rfl rfl rfl ?_
               intro w51 hM
               refine qf ?_
               exact hJ6 _ _ ⟨false, d.n, d.y.q.b1, d.y.o1, d.y.q.t1.length, d.y.c1, d.y.o2, d.y.q.q1.length, d.y.c2, d.y.q.b2, d.y.o3, d.y.q.t2.length, d.y.c3, d.y.o4, d.y.q.q2.length, d.y.c4, ⟨#[]⟩, d.ro, d.rl.length, d.rc, d.lo, ts.length, d.lc, ⟨by
                 unfold jo
                 repeat (first | rw [if_pos (by omega)] | rw [if_neg (by omega)])
                 first | rfl | rw [hb45], by first | exact hq1 | decide, by first | exact hq2 | decide, by first | exact hq3 | decide, by first | exact hq4 | decide⟩, hA.keep _ ⟨rfl, rfl, rfl, rfl, trivial⟩, hM⟩
           · have hb44' := ne_of_beq_false hb44
             refine qa (v := .bool false) hA rfl rfl rfl (qg rfl rfl (fun w => (za w).trans (by rw [hb44]))) ?_
             intro a hA
             refine qa hA rfl rfl rfl (qb rfl) ?_
             intro a hA
             refine qf ?_
             refine hK43 _ _ ?_
             refine wp_cond_false (hA.ev rfl) ?_
             refine wp_seq_k (fun K52 hK52 => ?_)
             refine wp_region_lit ?_
             rcases Bool.eq_false_or_eq_true ((d.k == 6)) with hb53 | hb53
             · have hb53' := eq_of_beq hb53
               refine qa (v := .bool true) hA rfl rfl rfl (qg rfl rfl (fun w => (za w).trans (by rw [hb53]))) ?_
               intro a hA
               refine qa hA rfl rfl rfl (qb rfl) ?_
               intro a hA
               refine qf ?_
               refine hK52 _ _ ?_
               refine wp_cond_true (hA.ev rfl) ?_
               refine wp_skip ?_
               refine hK42 _ _ ?_
               refine wp_cond_true (hA.ev rfl) ?_
               refine wp_region_lit ?_
               refine qa (v := .pointer (some ⟨g2, 8, none⟩)) hA rfl rfl rfl (qk TrB_fld_31_3 rfl rfl) ?_
               intro a hA
               refine qa hA rfl rfl rfl (zk hM TrB_is1_9 rfl 0 rfl rfl) ?_
               intro a hA
               rcases Bool.eq_false_or_eq_true (okS d.s) with hb54 | hb54
               · refine qm hA rfl rfl rfl (qh rfl rfl (fun w => by kernel_rfl)) (yj hok.smax (hT.below hM.bel) hb54) ?_
                 rintro _ w56 ⟨rfl, hb55⟩
                 replace hM := hM.call hb55
                 refine ⟨_, rfl, ?_⟩
                 intro a hA
                 refine qa hA rfl rfl rfl (qb rfl) ?_
                 intro a hA
                 refine qa (v := .pointer (some ⟨g2, 8, none⟩)) hA rfl rfl rfl (qk TrB_fld_31_3 rfl rfl) ?_
                 intro a hA
                 refine zq (us := [.int .i64 d.k, .int .i64 d.n, .bool d.y.q.b1, .slice d.y.o1 d.y.q.t1.length d.y.c1, .slice d.y.o2 d.y.q.q1.length d.y.c2, .bool d.y.q.b2, .slice d.y.o3 d.y.q.t2.length d.y.c3, .slice d.y.o4 d.y.q.q2.length d.y.c4, .string (⟨#[]⟩), .slice d.ro d.rl.length d.rc, .slice d.lo ts.length d.lc]) (L' := (.obj g2 (.cells #[.int .i64 d.k, .int .i64 d.n, .bool d.y.q.b1, .slice d.y.o1 d.y.q.t1.length d.y.c1, .slice d.y.o2 d.y.q.q1.length d.y.c2, .bool d.y.q.b2, .slice d.y.o3 d.y.q.t2.length d.y.c3, .slice d.y.o4 d.y.q.q2.length d.y.c4, .string (⟨#[]⟩), .slice d.ro d.rl.length d.rc, .slice d.lo ts.length d.lc] 31) :: [])) hA hM rfl rfl (zh rfl rfl rfl (by kernel_rfl) hM 0 rfl rfl rfl) 0 rfl rfl rfl ?_
                 intro w57 hM
                 refine qf ?_
                 exact hJ6 _ _ ⟨true, d.n, d.y.q.b1, d.y.o1, d.y.q.t1.length, d.y.c1, d.y.o2, d.y.q.q1.length, d.y.c2, d.y.q.b2, d.y.o3, d.y.q.t2.length, d.y.c3, d.y.o4, d.y.q.q2.length, d.y.c4, ⟨#[]⟩, d.ro, d.rl.length, d.rc, d.lo, ts.length, d.lc, ⟨by
                   unfold jo
                   repeat (first | rw [if_pos (by omega)] | rw [if_neg (by omega)])
                   first | rfl | rw [hb54], by first | exact hq1 | decide, by first | exact hq2 | decide, by first | exact hq3 | decide, by first | exact hq4 | decide⟩, hA.keep _ ⟨rfl, rfl, rfl, rfl, trivial⟩, hM⟩
               · refine qm hA rfl rfl rfl (qh rfl rfl (fun w => by kernel_rfl)) (yj hok.smax (hT.below hM.bel) hb54) ?_
                 rintro _ w59 ⟨rfl, hb58⟩
                 replace hM := hM.call hb58
                 refine ⟨_, rfl, ?_⟩
                 intro a hA
                 refine qa hA rfl rfl rfl (qb rfl) ?_
                 intro a hA
                 refine qa (v := .pointer (some ⟨g2, 8, none⟩)) hA rfl rfl rfl (qk TrB_fld_31_3 rfl rfl) ?_
                 intro a hA
                 refine zq (us := [.int .i64 d.k, .int .i64 d.n, .bool d.y.q.b1, .slice d.y.o1 d.y.q.t1.length d.y.c1, .slice d.y.o2 d.y.q.q1.length d.y.c2, .bool d.y.q.b2, .slice d.y.o3 d.y.q.t2.length d.y.c3, .slice d.y.o4 d.y.q.q2.length d.y.c4, .string (⟨#[]⟩), .slice d.ro d.rl.length d.rc, .slice d.lo ts.length d.lc]) (L' := (.obj g2 (.cells #[.int .i64 d.k, .int .i64 d.n, .bool d.y.q.b1, .slice d.y.o1 d.y.q.t1.length d.y.c1, .slice d.y.o2 d.y.q.q1.length d.y.c2, .bool d.y.q.b2, .slice d.y.o3 d.y.q.t2.length d.y.c3, .slice d.y.o4 d.y.q.q2.length d.y.c4, .string (⟨#[]⟩), .slice d.ro d.rl.length d.rc, .slice d.lo ts.length d.lc] 31) :: [])) hA hM rfl rfl (zh rfl rfl rfl (by kernel_rfl) hM 0 rfl rfl rfl) 0 rfl rfl rfl ?_
                 intro w60 hM
                 refine qf ?_
                 exact hJ6 _ _ ⟨false, d.n, d.y.q.b1, d.y.o1, d.y.q.t1.length, d.y.c1, d.y.o2, d.y.q.q1.length, d.y.c2, d.y.q.b2, d.y.o3, d.y.q.t2.length, d.y.c3, d.y.o4, d.y.q.q2.length, d.y.c4, ⟨#[]⟩, d.ro, d.rl.length, d.rc, d.lo, ts.length, d.lc, ⟨by
                   unfold jo
                   repeat (first | rw [if_pos (by omega)] | rw [if_neg (by omega)])
                   first | rfl | rw [hb54], by first | exact hq1 | decide, by first | exact hq2 | decide, by first | exact hq3 | decide, by first | exact hq4 | decide⟩, hA.keep _ ⟨rfl, rfl, rfl, rfl, trivial⟩, hM⟩
             · have hb53' := ne_of_beq_false hb53
               refine qa (v := .bool false) hA rfl rfl rfl (qg rfl rfl (fun w => (za w).trans (by rw [hb53]))) ?_
               intro a hA
               refine qa hA rfl rfl rfl (qb rfl) ?_
               intro a hA
               refine qf ?_
               refine hK52 _ _ ?_
               refine wp_cond_false (hA.ev rfl) ?_
               refine wp_region_lit ?_
               rcases Bool.eq_false_or_eq_true ((d.k == 11)) with hb61 | hb61
               · have hb61' := eq_of_beq hb61
                 refine qa (v := .bool true) hA rfl rfl rfl (qg rfl rfl (fun w => (za w).trans (by rw [hb61]))) ?_
                 intro a hA
                 refine qa hA rfl rfl rfl (qb rfl) ?_
                 intro a hA
                 refine qf ?_
                 refine hK42 _ _ ?_
                 refine wp_cond_true (hA.ev rfl) ?_
                 refine wp_region_lit ?_
                 refine qa (v := .pointer (some ⟨g2, 8, none⟩)) hA rfl rfl rfl (qk TrB_fld_31_3 rfl rfl) ?_
                 intro a hA
                 refine qa hA rfl rfl rfl (zk hM TrB_is1_9 rfl 0 rfl rfl) ?_
                 intro a hA
                 rcases Bool.eq_false_or_eq_true (okS d.s) with hb62 | hb62
                 · refine qm hA rfl rfl rfl (qh rfl rfl (fun w => by kernel_rfl)) (yj hok.smax (hT.below hM.bel) hb62) ?_
                   rintro _ w64 ⟨rfl, hb63⟩
                   replace hM := hM.call hb63
                   refine ⟨_, rfl, ?_⟩
                   intro a hA
                   refine qa hA rfl rfl rfl (qb rfl) ?_
                   intro a hA
                   refine qa (v := .pointer (some ⟨g2, 8, none⟩)) hA rfl rfl rfl (qk TrB_fld_31_3 rfl rfl) ?_
                   intro a hA
                   refine zq (us := [.int .i64 d.k, .int .i64 d.n, .bool d.y.q.b1, .slice d.y.o1 d.y.q.t1.length d.y.c1, .slice d.y.o2 d.y.q.q1.length d.y.c2, .bool d.y.q.b2, .slice d.y.o3 d.y.q.t2.length d.y.c3, .slice d.y.o4 d.y.q.q2.length d.y.c4, .string (⟨#[]⟩), .slice d.ro d.rl.length d.rc, .slice d.lo ts.length d.lc]) (L' := (.obj g2 (.cells #[.int .i64 d.k, .int .i64 d.n, .bool d.y.q.b1, .slice d.y.o1 d.y.q.t1.length d.y.c1, .slice d.y.o2 d.y.q.q1.length d.y.c2, .bool d.y.q.b2, .slice d.y.o3 d.y.q.t2.length d.y.c3, .slice d.y.o4 d.y.q.q2.length d.y.c4, .string (⟨#[]⟩), .slice d.ro d.rl.length d.rc, .slice d.lo ts.length d.lc] 31) :: [])) hA hM rfl rfl (zh rfl rfl rfl (by kernel_rfl) hM 0 rfl rfl rfl) 0 rfl rfl rfl ?_
                   intro w65 hM
                   refine qf ?_
                   exact hJ6 _ _ ⟨true, d.n, d.y.q.b1, d.y.o1, d.y.q.t1.length, d.y.c1, d.y.o2, d.y.q.q1.length, d.y.c2, d.y.q.b2, d.y.o3, d.y.q.t2.length, d.y.c3, d.y.o4, d.y.q.q2.length, d.y.c4, ⟨#[]⟩, d.ro, d.rl.length, d.rc, d.lo, ts.length, d.lc, ⟨by
                     unfold jo
                     repeat (first | rw [if_pos (by omega)] | rw [if_neg (by omega)])
                     first | rfl | rw [hb62], by first | exact hq1 | decide, by first | exact hq2 | decide, by first | exact hq3 | decide, by first | exact hq4 | decide⟩, hA.keep _ ⟨rfl, rfl, rfl, rfl, trivial⟩, hM⟩
                 · refine qm hA rfl rfl rfl (qh rfl rfl (fun w => by kernel_rfl)) (yj hok.smax (hT.below hM.bel) hb62) ?_
                   rintro _ w67 ⟨rfl, hb66⟩
                   replace hM := hM.call hb66
                   refine ⟨_, rfl, ?_⟩
                   intro a hA
                   refine qa hA rfl rfl rfl (qb rfl) ?_
                   intro a hA
                   refine qa (v := .pointer (some ⟨g2, 8, none⟩)) hA rfl rfl rfl (qk TrB_fld_31_3 rfl rfl) ?_
                   intro a hA
                   refine zq (us := [.int .i64 d.k, .int .i64 d.n, .bool d.y.q.b1, .slice d.y.o1 d.y.q.t1.length d.y.c1, .slice d.y.o2 d.y.q.q1.length d.y.c2, .bool d.y.q.b2, .slice d.y.o3 d.y.q.t2.length d.y.c3, .slice d.y.o4 d.y.q.q2.length d.y.c4, .string (⟨#[]⟩), .slice d.ro d.rl.length d.rc, .slice d.lo ts.length d.lc]) (L' := (.obj g2 (.cells #[.int .i64 d.k, .int .i64 d.n, .bool d.y.q.b1, .slice d.y.o1 d.y.q.t1.length d.y.c1, .slice d.y.o2 d.y.q.q1.length d.y.c2, .bool d.y.q.b2, .slice d.y.o3 d.y.q.t2.length d.y.c3, .slice d.y.o4 d.y.q.q2.length d.y.c4, .string (⟨#[]⟩), .slice d.ro d.rl.length d.rc, .slice d.lo ts.length d.lc] 31) :: [])) hA hM rfl rfl (zh rfl rfl rfl (by kernel_rfl) hM 0 rfl rfl rfl) 0 rfl rfl rfl ?_
                   intro w68 hM
                   refine qf ?_
                   exact hJ6 _ _ ⟨false, d.n, d.y.q.b1, d.y.o1, d.y.q.t1.length, d.y.c1, d.y.o2, d.y.q.q1.length, d.y.c2, d.y.q.b2, d.y.o3, d.y.q.t2.length, d.y.c3, d.y.o4, d.y.q.q2.length, d.y.c4, ⟨#[]⟩, d.ro, d.rl.length, d.rc, d.lo, ts.length, d.lc, ⟨by
                     unfold jo
                     repeat (first | rw [if_pos (by omega)] | rw [if_neg (by omega)])
                     first | rfl | rw [hb62], by first | exact hq1 | decide, by first | exact hq2 | decide, by first | exact hq3 | decide, by first | exact hq4 | decide⟩, hA.keep _ ⟨rfl, rfl, rfl, rfl, trivial⟩, hM⟩
               · have hb61' := ne_of_beq_false hb61
                 refine qa (v := .bool false) hA rfl rfl rfl (qg rfl rfl (fun w => (za w).trans (by rw [hb61]))) ?_
                 intro a hA
                 refine qa hA rfl rfl rfl (qb rfl) ?_
                 intro a hA
                 refine qf ?_
                 refine hK42 _ _ ?_
                 refine wp_cond_false (hA.ev rfl) ?_
                 refine wp_seq_k (fun K69 hK69 => ?_)
                 refine wp_region_lit ?_
                 rcases Bool.eq_false_or_eq_true ((d.k == 7)) with hb70 | hb70
                 · have hb70' := eq_of_beq hb70
                   refine qa (v := .bool true) hA rfl rfl rfl (qg rfl rfl (fun w => (za w).trans (by rw [hb70]))) ?_
                   intro a hA
                   refine qa hA rfl rfl rfl (qb rfl) ?_
                   intro a hA
                   refine qf ?_
                   refine hK69 _ _ ?_
                   refine wp_cond_true (hA.ev rfl) ?_
                   refine wp_region_lit ?_
                   refine qa (v := .pointer (some ⟨g2, 9, none⟩)) hA rfl rfl rfl (qk TrB_fld_31_4 rfl rfl) ?_
                   intro a hA
                   refine zq (us := [.int .i64 d.k, .int .i64 d.n, .bool d.y.q.b1, .slice d.y.o1 d.y.q.t1.length d.y.c1, .slice d.y.o2 d.y.q.q1.length d.y.c2, .bool d.y.q.b2, .slice d.y.o3 d.y.q.t2.length d.y.c3, .slice d.y.o4 d.y.q.q2.length d.y.c4, .string d.s, .slice none 0 0, .slice d.lo ts.length d.lc]) (L' := (.obj g2 (.cells #[.int .i64 d.k, .int .i64 d.n, .bool d.y.q.b1, .slice d.y.o1 d.y.q.t1.length d.y.c1, .slice d.y.o2 d.y.q.q1.length d.y.c2, .bool d.y.q.b2, .slice d.y.o3 d.y.q.t2.length d.y.c3, .slice d.y.o4 d.y.q.q2.length d.y.c4, .string d.s, .slice none 0 0, .slice d.lo ts.length d.lc] 31) :: [])) hA hM rfl rfl (zh rfl rfl rfl (by kernel_rfl) hM 0 rfl rfl rfl) 0 rfl rfl rfl ?_
                   intro w71 hM
                   refine qf ?_
                   exact hJ6 _ _ ⟨true, d.n, d.y.q.b1, d.y.o1, d.y.q.t1.length, d.y.c1, d.y.o2, d.y.q.q1.length, d.y.c2, d.y.q.b2, d.y.o3, d.y.q.t2.length, d.y.c3, d.y.o4, d.y.q.q2.length, d.y.c4, d.s, none, 0, 0, d.lo, ts.length, d.lc, ⟨by
                     unfold jo
                     repeat (first | rw [if_pos (by omega)] | rw [if_neg (by omega)])
                     first | rfl, by first | exact hq1 | decide, by first | exact hq2 | decide, by first | exact hq3 | decide, by first | exact hq4 | decide⟩, hA.keep _ ⟨rfl, rfl, rfl, rfl, trivial⟩, hM⟩
                 · have hb70' := ne_of_beq_false hb70
                   refine qa (v := .bool false) hA rfl rfl rfl (qg rfl rfl (fun w => (za w).trans (by rw [hb70]))) ?_
                   intro a hA
                   refine qa hA rfl rfl rfl (qb rfl) ?_
                   intro a hA
                   refine qf ?_
                   refine hK69 _ _ ?_
                   refine wp_cond_false (hA.ev rfl) ?_
                   refine wp_seq_k (fun K72 hK72 => ?_)
                   refine wp_region_lit ?_
                   rcases Bool.eq_false_or_eq_true ((d.k == 8)) with hb73 | hb73
                   · have hb73' := eq_of_beq hb73
                     refine qa (v := .bool true) hA rfl rfl rfl (qg rfl rfl (fun w => (za w).trans (by rw [hb73]))) ?_
                     intro a hA
                     refine qa hA rfl rfl rfl (qb rfl) ?_
                     intro a hA
                     refine qf ?_
                     refine hK72 _ _ ?_
                     refine wp_cond_true (hA.ev rfl) ?_
                     refine wp_region_lit ?_
                     refine qa (v := .pointer (some ⟨g2, 10, none⟩)) hA rfl rfl rfl (qk TrB_fld_31_5 rfl rfl) ?_
                     intro a hA
                     refine qa hA rfl rfl rfl (zk hM TrB_is1_29 rfl 0 rfl rfl) ?_
                     intro a hA
                     refine qa (v := .int .i64 (((ts.length : Nat) : Int))) hA rfl rfl rfl (zj Tryz.underlying29 rfl) ?_
                     intro a hA
                     rcases Bool.eq_false_or_eq_true ((((ts.length : Nat) : Int) == 2)) with hb74 | hb74
                     · have hb74' := eq_of_beq hb74
                       refine qa (v := .bool true) hA rfl rfl rfl (qg rfl rfl (fun w => (za w).trans (by rw [hb74]))) ?_
                       intro a hA
                       refine qa hA rfl rfl rfl (qb rfl) ?_
                       intro a hA
                       refine qa (v := .pointer (some ⟨g2, 10, none⟩)) hA rfl rfl rfl (qk TrB_fld_31_5 rfl rfl) ?_
                       intro a hA
                       refine zq (us := [.int .i64 d.k, .int .i64 d.n, .bool d.y.q.b1, .slice d.y.o1 d.y.q.t1.length d.y.c1, .slice d.y.o2 d.y.q.q1.length d.y.c2, .bool d.y.q.b2, .slice d.y.o3 d.y.q.t2.length d.y.c3, .slice d.y.o4 d.y.q.q2.length d.y.c4, .string d.s, .slice d.ro d.rl.length d.rc, .slice none 0 0]) (L' := (.obj g2 (.cells #[.int .i64 d.k, .int .i64 d.n, .bool d.y.q.b1, .slice d.y.o1 d.y.q.t1.length d.y.c1, .slice d.y.o2 d.y.q.q1.length d.y.c2, .bool d.y.q.b2, .slice d.y.o3 d.y.q.t2.length d.y.c3, .slice d.y.o4 d.y.q.q2.length d.y.c4, .string d.s, .slice d.ro d.rl.length d.rc, .slice none 0 0] 31) :: [])) hA hM rfl rfl (zh rfl rfl rfl (by kernel_rfl) hM 0 rfl rfl rfl) 0 rfl rfl rfl ?_
                       intro w75 hM
                       refine qf ?_
                       exact hJ6 _ _ ⟨true, d.n, d.y.q.b1, d.y.o1, d.y.q.t1.length, d.y.c1, d.y.o2, d.y.q.q1.length, d.y.c2, d.y.q.b2, d.y.o3, d.y.q.t2.length, d.y.c3, d.y.o4, d.y.q.q2.length, d.y.c4, d.s, d.ro, d.rl.length, d.rc, none, 0, 0, ⟨by
                         unfold jo
                         repeat (first | rw [if_pos (by omega)] | rw [if_neg (by omega)])
                         first | rfl | (rw [decide_eq_true (show (ts.length = 2) by omega)]), by first | exact hq1 | decide, by first | exact hq2 | decide, by first | exact hq3 | decide, by first | exact hq4 | decide⟩, hA.keep _ ⟨rfl, rfl, rfl, rfl, trivial⟩, hM⟩
                     · have hb74' := ne_of_beq_false hb74
                       refine qa (v := .bool false) hA rfl rfl rfl (qg rfl rfl (fun w => (za w).trans (by rw [hb74]))) ?_
                       intro a hA
                       refine qa hA rfl rfl rfl (qb rfl) ?_
                       intro a hA
                       refine qa (v := .pointer (some ⟨g2, 10, none⟩)) hA rfl rfl rfl (qk TrB_fld_31_5 rfl rfl) ?_
                       intro a hA
                       refine zq (us := [.int .i64 d.k, .int .i64 d.n, .bool d.y.q.b1, .slice d.y.o1 d.y.q.t1.length d.y.c1, .slice d.y.o2 d.y.q.q1.length d.y.c2, .bool d.y.q.b2, .slice d.y.o3 d.y.q.t2.length d.y.c3, .slice d.y.o4 d.y.q.q2.length d.y.c4, .string d.s, .slice d.ro d.rl.length d.rc, .slice none 0 0]) (L' := (.obj g2 (.cells #[.int .i64 d.k, .int .i64 d.n, .bool d.y.q.b1, .slice d.y.o1 d.y.q.t1.length d.y.c1, .slice d.y.o2 d.y.q.q1.length d.y.c2, .bool d.y.q.b2, .slice d.y.o3 d.y.q.t2.length d.y.c3, .slice d.y.o4 d.y.q.q2.length d.y.c4, .string d.s, .slice d.ro d.rl.length d.rc, .slice none 0 0] 31) :: [])) hA hM rfl rfl (zh rfl rfl rfl (by kernel_rfl) hM 0 rfl rfl rfl) 0 rfl rfl rfl ?_
                       intro w76 hM
                       refine qf ?_
                       exact hJ6 _ _ ⟨false, d.n, d.y.q.b1, d.y.o1, d.y.q.t1.length, d.y.c1, d.y.o2, d.y.q.q1.length, d.y.c2, d.y.q.b2, d.y.o3, d.y.q.t2.length, d.y.c3, d.y.o4, d.y.q.q2.length, d.y.c4, d.s, d.ro, d.rl.length, d.rc, none, 0, 0, ⟨by
                         unfold jo
                         repeat (first | rw [if_pos (by omega)] | rw [if_neg (by omega)])
                         first | rfl | (rw [decide_eq_false (show ¬ (ts.length = 2) by omega)]), by first | exact hq1 | decide, by first | exact hq2 | decide, by first | exact hq3 | decide, by first | exact hq4 | decide⟩, hA.keep _ ⟨rfl, rfl, rfl, rfl, trivial⟩, hM⟩
                   · have hb73' := ne_of_beq_false hb73
                     refine qa (v := .bool false) hA rfl rfl rfl (qg rfl rfl (fun w => (za w).trans (by rw [hb73]))) ?_
                     intro a hA
                     refine qa hA rfl rfl rfl (qb rfl) ?_
                     intro a hA
                     refine qf ?_
                     refine hK72 _ _ ?_
                     refine wp_cond_false (hA.ev rfl) ?_
                     refine wp_seq_k (fun K77 hK77 => ?_)
                     refine wp_region_lit ?_
                     rcases Bool.eq_false_or_eq_true ((d.k == 9)) with hb78 | hb78
                     · have hb78' := eq_of_beq hb78
                       refine qa (v := .bool true) hA rfl rfl rfl (qg rfl rfl (fun w => (za w).trans (by rw [hb78]))) ?_
                       intro a hA
                       refine qa hA rfl rfl rfl (qb rfl) ?_
                       intro a hA
                       refine qf ?_
                       refine hK77 _ _ ?_
                       refine wp_cond_true (hA.ev rfl) ?_
                       refine wp_region_lit ?_
                       refine qa (v := .pointer (some ⟨g2, 10, none⟩)) hA rfl rfl rfl (qk TrB_fld_31_5 rfl rfl) ?_
                       intro a hA
                       refine zq (us := [.int .i64 d.k, .int .i64 d.n, .bool d.y.q.b1, .slice d.y.o1 d.y.q.t1.length d.y.c1, .slice d.y.o2 d.y.q.q1.length d.y.c2, .bool d.y.q.b2, .slice d.y.o3 d.y.q.t2.length d.y.c3, .slice d.y.o4 d.y.q.q2.length d.y.c4, .string d.s, .slice d.ro d.rl.length d.rc, .slice none 0 0]) (L' := (.obj g2 (.cells #[.int .i64 d.k, .int .i64 d.n, .bool d.y.q.b1, .slice d.y.o1 d.y.q.t1.length d.y.c1, .slice d.y.o2 d.y.q.q1.length d.y.c2, .bool d.y.q.b2, .slice d.y.o3 d.y.q.t2.length d.y.c3, .slice d.y.o4 d.y.q.q2.length d.y.c4, .string d.s, .slice d.ro d.rl.length d.rc, .slice none 0 0] 31) :: [])) hA hM rfl rfl (zh rfl rfl rfl (by kernel_rfl) hM 0 rfl rfl rfl) 0 rfl rfl rfl ?_
                       intro w79 hM
                       refine qf ?_
                       exact hJ6 _ _ ⟨true, d.n, d.y.q.b1, d.y.o1, d.y.q.t1.length, d.y.c1, d.y.o2, d.y.q.q1.length, d.y.c2, d.y.q.b2, d.y.o3, d.y.q.t2.length, d.y.c3, d.y.o4, d.y.q.q2.length, d.y.c4, d.s, d.ro, d.rl.length, d.rc, none, 0, 0, ⟨by
                         unfold jo
                         repeat (first | rw [if_pos (by omega)] | rw [if_neg (by omega)])
                         first | rfl, by first | exact hq1 | decide, by first | exact hq2 | decide, by first | exact hq3 | decide, by first | exact hq4 | decide⟩, hA.keep _ ⟨rfl, rfl, rfl, rfl, trivial⟩, hM⟩
                     · have hb78' := ne_of_beq_false hb78
                       refine qa (v := .bool false) hA rfl rfl rfl (qg rfl rfl (fun w => (za w).trans (by rw [hb78]))) ?_
                       intro a hA
                       refine qa hA rfl rfl rfl (qb rfl) ?_
                       intro a hA
                       refine qf ?_
                       refine hK77 _ _ ?_
                       refine wp_cond_false (hA.ev rfl) ?_
                       refine wp_region_lit ?_
                       refine qa hA rfl rfl rfl (qb rfl) ?_
                       intro a hA
                       refine qf ?_
                       exact hJ6 _ _ ⟨false, d.n, d.y.q.b1, d.y.o1, d.y.q.t1.length, d.y.c1, d.y.o2, d.y.q.q1.length, d.y.c2, d.y.q.b2, d.y.o3, d.y.q.t2.length, d.y.c3, d.y.o4, d.y.q.q2.length, d.y.c4, d.s, d.ro, d.rl.length, d.rc, d.lo, ts.length, d.lc, ⟨by
                         unfold jo
                         repeat (first | rw [if_pos (by omega)] | rw [if_neg (by omega)])
                         first | rfl, by first | exact hq1 | decide, by first | exact hq2 | decide, by first | exact hq3 | decide, by first | exact hq4 | decide⟩, hA.keep _ ⟨rfl, rfl, rfl, rfl, trivial⟩, hM⟩
end Go.Proofs.YtoopkbedjbnhhabGreatDoor.G
namespace Go.Proofs.YtoopkbedjbnhhabGreatDoor.G
open Go.RowKit
set_option maxRecDepth 100000
theorem TrC_is1_29 : Is1 Tryz.prog 29 := ⟨⟨_, Tryz.underlying29, rfl⟩, by kernel_rfl⟩
theorem TrC_fld_31_5 : FieldAt Tryz.prog 31 5 10 := ⟨_, _, Tryz.underlying31, rfl, rfl, by kernel_rfl⟩
theorem TrC_isS_31 : IsS Tryz.prog 31 11 := ⟨⟨_, Tryz.underlying31⟩, by kernel_rfl⟩
theorem Mg.here {w0 w : World} {L : List Ck} (h : Mg w0 w L) (k : Nat) {g : Nat} {cs : List Value} {t : TypeId} (hk : L[k]? = some (.obj g (.cells cs.toArray t))) : Here w g 0 cs := ⟨(Array.getElem?_eq_some_iff.1 (h.obj k hk)).1, fun j v hj => by rw [Nat.zero_add]; exact h.cell k hk j hj⟩
def Through (t : Dt) : Prop := ∀ {w : World}, t.rd w → Tabs8 w → Calls Tryz.prog 16 #[.agg t.cells.toArray] w fun e w' => e = .returned (.bool (xj zl t.tr)) ∧ Below w.heap.size w w'
theorem qfc : ∀ t : Dt, Through t := Dt.indT fun d ts ih => by
 intro w hrd hT
 have hok := (Dt.rd_iff.1 hrd)
 have hlen : ts.length ≤ 9223372036854775807 := Nat.le_trans hok.2.1 hok.2.2.1
 have hM : Mg w w ([]) := Mg.start w
 refine zb (l := [(0, .agg (d.cells ts.length).toArray)]) Tryz.func16 rfl Tryz.ntmps16 rfl rfl ?_
 intro Q hret hnorm hP a hA
 refine wp_seq_k (fun K1 hK1 => ?_)
 refine wp_region_lit ?_
 refine jc (vs := [.int .i64 d.k, .int .i64 d.n, .bool d.y.q.b1, .slice d.y.o1 d.y.q.t1.length d.y.c1, .slice d.y.o2 d.y.q.q1.length d.y.c2, .bool d.y.q.b2, .slice d.y.o3 d.y.q.t2.length d.y.c3, .slice d.y.o4 d.y.q.q2.length d.y.c4, .string d.s, .slice d.ro d.rl.length d.rc, .slice d.lo ts.length d.lc]) (t := 31) hA hM rfl rfl rfl (fun g => .pointer (some ⟨g, 0, none⟩)) (zm rfl rfl) (by decide) ?_
 intro g2 w3 hM a hA
 refine qa hA rfl rfl rfl (qb rfl) ?_
 intro a hA
 refine qf ?_
 refine hK1 _ _ ?_
 refine wp_seq_k (fun K4 hK4 => ?_)
 refine wp_seq_k (fun K5 hK5 => ?_)
 refine wp_region_lit ?_
 refine qa hA rfl rfl rfl (jf hM TrC_isS_31 rfl 0 rfl (cs := [.int .i64 d.k, .int .i64 d.n, .bool d.y.q.b1, .slice d.y.o1 d.y.q.t1.length d.y.c1, .slice d.y.o2 d.y.q.q1.length d.y.c2, .bool d.y.q.b2, .slice d.y.o3 d.y.q.t2.length d.y.c3, .slice d.y.o4 d.y.q.q2.length d.y.c4, .string d.s, .slice d.ro d.rl.length d.rc, .slice d.lo ts.length d.lc]) rfl rfl) ?_
 intro a hA
 rcases Bool.eq_false_or_eq_true (jo d.k d.n d.y.q d.s d.rl.length ts.length) with hb6 | hb6
 · refine qm hA rfl rfl rfl (qh rfl rfl (fun w => by kernel_rfl)) ((hb6 ▸ qja (ts := ts) (hok.1.below hM.bel) (hT.below hM.bel))) ?_
   rintro _ w8 ⟨rfl, hb7⟩
   replace hM := hM.call hb7
   refine ⟨_, rfl, ?_⟩
   intro a hA
   refine qa (v := .bool false) hA rfl rfl rfl (qz rfl zg) ?_
   intro a hA
   refine qf ?_
   refine hK5 _ _ ?_
   refine wp_cond_false (hA.ev rfl) ?_
   refine wp_skip ?_
   refine hK4 _ _ ?_
   refine wp_seq_k (fun K9 hK9 => ?_)
   refine wp_seq_k (fun K10 hK10 => ?_)
   refine wp_region_lit ?_
   refine qa (v := .pointer (some ⟨g2, 10, none⟩)) hA rfl rfl rfl (qk TrC_fld_31_5 rfl rfl) ?_
   intro a hA
   refine qa hA rfl rfl rfl (zk hM TrC_is1_29 rfl 0 rfl rfl) ?_
   intro a hA
   refine qa (v := .int .i64 (((ts.length : Nat) : Int))) hA rfl rfl rfl (zj Tryz.underlying29 rfl) ?_
   intro a hA
   refine qa hA rfl rfl rfl (qe rfl) ?_
   intro a hA
   refine qf ?_
   refine hK10 _ _ ?_
   refine wp_block ?_
   refine jq (fun m_ a w1 => ∃ (i : Nat), m_ = 1 + (ts.length - i) ∧ (i ≤ ts.length ∧ um zl ((ts.map Dt.tr).drop 0) = um zl ((ts.map Dt.tr).drop i)) ∧ Sl a 19 [(0, .agg (d.cells ts.length).toArray), (1, .pointer (some ⟨g2, 0, none⟩)), (5, .agg (d.cells ts.length).toArray), (6, .bool true), (7, .bool false), (8, .pointer (some ⟨g2, 10, none⟩)), (9, .slice d.lo ts.length d.lc), (10, .int .i64 (((ts.length : Nat) : Int))), (11, .int .i64 (((i : Nat) : Int)))] ∧ Mg w w1 (.obj g2 (.cells (d.cells ts.length).toArray 31) :: [])) _ ⟨0, rfl, ⟨Nat.zero_le _, rfl⟩, hA.keep _ (by repeat' constructor), hM⟩ ?_
   clear hM hA
   rintro m_ a w11 ⟨i, rfl, hinv13, hA, hM⟩ K12 hK12
   obtain ⟨hi0, hin9⟩ := hinv13
   refine wp_seq_k (fun K14 hK14 => ?_)
   refine wp_region_lit ?_
   rcases Bool.eq_false_or_eq_true (decide (((i : Nat) : Int) < ((ts.length : Nat) : Int))) with hb15 | hb15
   · have hb15' := of_decide_eq_true hb15
     refine qa (v := .bool true) hA rfl rfl rfl (qg rfl rfl (fun w => (zt w).trans (by rw [hb15]))) ?_
     intro a hA
     refine qf ?_
     refine hK14 _ _ ?_
     refine wp_seq_k (fun K16 hK16 => ?_)
     refine wp_cond_true (hA.ev rfl) ?_
     refine wp_skip ?_
     refine hK16 _ _ ?_
     refine wp_seq_k (fun K17 hK17 => ?_)
     refine wp_block ?_
     refine wp_seq_k (fun K18 hK18 => ?_)
     obtain ⟨t1, b1, o1, hi1, hm1, hr1, hl1, hH1⟩ := kid hrd (i := i) (by omega)
     refine wp_region_lit ?_
     refine qa (v := .pointer (some ⟨b1, o1 + i * 11, none⟩)) hA rfl rfl rfl (jd (k := i) Tryz.underlying29 (by kernel_rfl) rfl rfl rfl hl1 (by omega)) ?_
     intro a hA
     refine qa hA rfl rfl rfl (vh hM hH1 TrC_isS_31 rfl rfl) ?_
     intro a hA
     refine jc (vs := [.int .i64 0, .int .i64 0, .bool false, .slice none 0 0, .slice none 0 0, .bool false, .slice none 0 0, .slice none 0 0, .string (⟨#[]⟩), .slice none 0 0, .slice none 0 0]) (t := 31) hA hM rfl rfl rfl (fun g => .pointer (some ⟨g, 0, none⟩)) (zd (z := .agg #[.int .i64 0, .int .i64 0, .bool false, .slice none 0 0, .slice none 0 0, .bool false, .slice none 0 0, .slice none 0 0, .string (⟨#[]⟩), .slice none 0 0, .slice none 0 0]) (by kernel_rfl) rfl) (by decide) ?_
     intro g19 w20 hM a hA
     refine zq (us := [.int .i64 t1.d.k, .int .i64 t1.d.n, .bool t1.d.y.q.b1, .slice t1.d.y.o1 t1.d.y.q.t1.length t1.d.y.c1, .slice t1.d.y.o2 t1.d.y.q.q1.length t1.d.y.c2, .bool t1.d.y.q.b2, .slice t1.d.y.o3 t1.d.y.q.t2.length t1.d.y.c3, .slice t1.d.y.o4 t1.d.y.q.q2.length t1.d.y.c4, .string t1.d.s, .slice t1.d.ro t1.d.rl.length t1.d.rc, .slice t1.d.lo t1.ts.length t1.d.lc]) (L' := (.obj g19 (.cells (t1.d.cells t1.ts.length).toArray 31) :: .obj g2 (.cells (d.cells ts.length).toArray 31) :: [])) hA hM rfl rfl (zh rfl rfl rfl (by kernel_rfl) hM 0 rfl rfl rfl) 0 rfl rfl rfl ?_
     intro w21 hM
     refine qf ?_
     refine hK18 _ _ ?_
     refine wp_seq_k (fun K22 hK22 => ?_)
     refine wp_region_lit ?_
     refine qa hA rfl rfl rfl (jf hM TrC_isS_31 rfl 0 rfl (cs := [.int .i64 t1.d.k, .int .i64 t1.d.n, .bool t1.d.y.q.b1, .slice t1.d.y.o1 t1.d.y.q.t1.length t1.d.y.c1, .slice t1.d.y.o2 t1.d.y.q.q1.length t1.d.y.c2, .bool t1.d.y.q.b2, .slice t1.d.y.o3 t1.d.y.q.t2.length t1.d.y.c3, .slice t1.d.y.o4 t1.d.y.q.q2.length t1.d.y.c4, .string t1.d.s, .slice t1.d.ro t1.d.rl.length t1.d.rc, .slice t1.d.lo t1.ts.length t1.d.lc]) rfl rfl) ?_
     intro a hA
     rcases Bool.eq_false_or_eq_true (xj zl t1.tr) with hb23 | hb23
     · refine qm hA rfl rfl rfl (qh rfl rfl (fun w => by kernel_rfl)) ((hb23 ▸ ih t1 hm1 (Dt.keep hM.bel _ hr1) (hT.below hM.bel))) ?_
       rintro _ w25 ⟨rfl, hb24⟩
       replace hM := hM.call hb24
       refine ⟨_, rfl, ?_⟩
       intro a hA
       refine qa (v := .bool false) hA rfl rfl rfl (qz rfl zg) ?_
       intro a hA
       refine qf ?_
       refine hK22 _ _ ?_
       refine wp_cond_false (hA.ev rfl) ?_
       refine wp_skip ?_
       refine hK17 _ _ ?_
       refine wp_region_lit ?_
       refine qa (v := .int .i64 (((i + 1 : Nat) : Int))) hA rfl rfl rfl (qg rfl rfl (fun w => (kf (ym (by omega) (by omega)) w).trans (by rw [show (((i : Nat) : Int) + 1 : Int) = ((i + 1 : Nat) : Int) from by omega]))) ?_
       intro a hA
       refine qa hA rfl rfl rfl (qe rfl) ?_
       intro a hA
       refine qf ?_
       replace hM : Mg w w25 (.obj g2 (.cells (d.cells ts.length).toArray 31) :: []) := by
         have h9 := hM.sub (cN (cC (.refl _)))
         exact h9
       refine hK12 _ _ _ (by omega) ⟨i + 1, rfl, ⟨by omega, by rw [hin9, allL_go hi1, hb23, Bool.true_and]⟩, hA.keep _ (by repeat' constructor), hM⟩
     · refine qm hA rfl rfl rfl (qh rfl rfl (fun w => by kernel_rfl)) ((hb23 ▸ ih t1 hm1 (Dt.keep hM.bel _ hr1) (hT.below hM.bel))) ?_
       rintro _ w27 ⟨rfl, hb26⟩
       replace hM := hM.call hb26
       refine ⟨_, rfl, ?_⟩
       intro a hA
       refine qa (v := .bool true) hA rfl rfl rfl (qz rfl zg) ?_
       intro a hA
       refine qf ?_
       refine hK22 _ _ ?_
       refine wp_cond_true (hA.ev rfl) ?_
       refine wp_seq_k (fun K28 hK28 => ?_)
       refine wp_region_lit ?_
       refine qa hA rfl rfl rfl (qb rfl) ?_
       intro a hA
       refine qf ?_
       refine hK28 _ _ ?_
       refine wp_ret ?_
       refine hret _ _ ?_
       refine ze (v := .bool false) hA rfl (.cons (ql rfl) .nil) rfl ?_
       rw [show xj zl (Dt.mk d ts).tr = false from by rw [allT_mk, yh, hb6, Bool.true_and, hin9, allL_go hi1, hb23, Bool.false_and]]
       exact ⟨rfl, hM.bel⟩
   · have hb15' := of_decide_eq_false hb15
     refine qa (v := .bool false) hA rfl rfl rfl (qg rfl rfl (fun w => (zt w).trans (by rw [hb15]))) ?_
     intro a hA
     refine qf ?_
     refine hK14 _ _ ?_
     refine wp_seq_k (fun K29 hK29 => ?_)
     refine wp_cond_false (hA.ev rfl) ?_
     refine wp_exit ?_
     refine hK9 _ _ ?_
     refine wp_seq_k (fun K30 hK30 => ?_)
     refine wp_region_lit ?_
     refine qa hA rfl rfl rfl (qb rfl) ?_
     intro a hA
     refine qf ?_
     refine hK30 _ _ ?_
     refine wp_ret ?_
     refine hret _ _ ?_
     refine ze (v := .bool true) hA rfl (.cons (ql rfl) .nil) rfl ?_
     rw [show xj zl (Dt.mk d ts).tr = true from by rw [allT_mk, yh, hb6, Bool.true_and, hin9, qdi (by omega), um]]
     exact ⟨rfl, hM.bel⟩
 · refine qm hA rfl rfl rfl (qh rfl rfl (fun w => by kernel_rfl)) ((hb6 ▸ qja (ts := ts) (hok.1.below hM.bel) (hT.below hM.bel))) ?_
   rintro _ w32 ⟨rfl, hb31⟩
   replace hM := hM.call hb31
   refine ⟨_, rfl, ?_⟩
   intro a hA
   refine qa (v := .bool true) hA rfl rfl rfl (qz rfl zg) ?_
   intro a hA
   refine qf ?_
   refine hK5 _ _ ?_
   refine wp_cond_true (hA.ev rfl) ?_
   refine wp_seq_k (fun K33 hK33 => ?_)
   refine wp_region_lit ?_
   refine qa hA rfl rfl rfl (qb rfl) ?_
   intro a hA
   refine qf ?_
   refine hK33 _ _ ?_
   refine wp_ret ?_
   refine hret _ _ ?_
   refine ze (v := .bool false) hA rfl (.cons (ql rfl) .nil) rfl ?_
   rw [show xj zl (Dt.mk d ts).tr = false from by rw [allT_mk, yh, hb6, Bool.false_and]]
   exact ⟨rfl, hM.bel⟩
theorem fits_any {w : World} {d : Nd} {ts : List Dt} (hrd : (Dt.mk d ts).rd w) : Calls Tryz.prog 15 #[.agg (d.cells ts.length).toArray] w fun e w' => e = .returned (.bool (jr 1 20000 (Dt.mk d ts).tr).1) ∧ Below w.heap.size w w' := by
 have hM : Mg w w ([]) := Mg.start w
 refine zb (l := [(0, .agg (d.cells ts.length).toArray)]) Tryz.func15 rfl Tryz.ntmps15 rfl rfl ?_
 intro Q hret hnorm hP a hA
 refine wp_seq_k (fun K1 hK1 => ?_)
 refine wp_region_lit ?_
 refine jc (vs := [.int .i64 d.k, .int .i64 d.n, .bool d.y.q.b1, .slice d.y.o1 d.y.q.t1.length d.y.c1, .slice d.y.o2 d.y.q.q1.length d.y.c2, .bool d.y.q.b2, .slice d.y.o3 d.y.q.t2.length d.y.c3, .slice d.y.o4 d.y.q.q2.length d.y.c4, .string d.s, .slice d.ro d.rl.length d.rc, .slice d.lo ts.length d.lc]) (t := 31) hA hM rfl rfl rfl (fun g => .pointer (some ⟨g, 0, none⟩)) (zm rfl rfl) (by decide) ?_
 intro g2 w3 hM a hA
 refine qa hA rfl rfl rfl (qb rfl) ?_
 intro a hA
 refine qf ?_
 refine hK1 _ _ ?_
 refine wp_seq_k (fun K4 hK4 => ?_)
 have hB1 := hM.bel
 have hH1 := hM.here 0 (cs := d.cells ts.length) rfl
 replace hM : Mg w3 w3 [] := Mg.start w3
 refine wp_region_lit ?_
 refine jc (vs := [.int .i64 0]) (t := 3) hA hM rfl rfl rfl (fun g => .pointer (some ⟨g, 0, none⟩)) (zd (z := .int .i64 0) (by kernel_rfl) rfl) (by decide) ?_
 intro g5 w6 hM a hA
 refine zq (us := [.int .i64 20000]) (L' := (.obj g5 (.cells #[.int .i64 20000] 3) :: [])) hA hM rfl rfl (zh rfl rfl rfl (by kernel_rfl) hM 0 rfl rfl rfl) 0 rfl rfl rfl ?_
 intro w7 hM
 refine qf ?_
 refine hK4 _ _ ?_
 refine wp_seq_k (fun K8 hK8 => ?_)
 refine wp_region_lit ?_
 refine qm hA rfl rfl rfl (qh rfl rfl (fun w => by kernel_rfl)) (fitsAt_all (Dt.mk d ts) (Dt.keep hB1 _ hrd) hH1 hM (by omega) (by omega) (by omega) (by omega)) ?_
 rintro _ w10 ⟨rfl, hM9⟩
 replace hM : Mg w3 w10 (.obj g5 (.cells #[.int .i64 ((jr 1 20000 (Dt.mk d ts).tr).2)] 3) :: []) := hM9
 refine ⟨_, rfl, ?_⟩
 intro a hA
 refine qa hA rfl rfl rfl (qb rfl) ?_
 intro a hA
 refine qf ?_
 refine hK8 _ _ ?_
 refine wp_ret ?_
 refine hret _ _ ?_
 refine ze (v := .bool ((jr 1 20000 (Dt.mk d ts).tr).1)) hA rfl (.cons (ql rfl) .nil) rfl ?_
 exact ⟨rfl, hB1.trans (hM.bel.mono hB1.size)⟩
theorem sound_mk {w : World} {d : Nd} {ts : List Dt} (hrd : (Dt.mk d ts).rd w) (hT : Tabs8 w) : Calls Tryz.prog 8 #[.agg (d.cells ts.length).toArray] w fun e w' => e = .returned (.bool (jv zl (Dt.mk d ts).tr)) ∧ Below w.heap.size w w' := by
 have hM : Mg w w ([]) := Mg.start w
 refine zb (l := [(0, .agg (d.cells ts.length).toArray)]) Tryz.func8 rfl Tryz.ntmps8 rfl rfl ?_
 intro Q hret hnorm hP a hA
 refine wp_seq_k (fun K1 hK1 => ?_)
 refine wp_region_lit ?_
 refine jc (vs := [.int .i64 d.k, .int .i64 d.n, .bool d.y.q.b1, .slice d.y.o1 d.y.q.t1.length d.y.c1, .slice d.y.o2 d.y.q.q1.length d.y.c2, .bool d.y.q.b2, .slice d.y.o3 d.y.q.t2.length d.y.c3, .slice d.y.o4 d.y.q.q2.length d.y.c4, .string d.s, .slice d.ro d.rl.length d.rc, .slice d.lo ts.length d.lc]) (t := 31) hA hM rfl rfl rfl (fun g => .pointer (some ⟨g, 0, none⟩)) (zm rfl rfl) (by decide) ?_
 intro g2 w3 hM a hA
 refine qa hA rfl rfl rfl (qb rfl) ?_
 intro a hA
 refine qf ?_
 refine hK1 _ _ ?_
 refine wp_seq_k (fun K4 hK4 => ?_)
 refine wp_region_lit ?_
 refine qa hA rfl rfl rfl (jf hM TrC_isS_31 rfl 0 rfl (cs := [.int .i64 d.k, .int .i64 d.n, .bool d.y.q.b1, .slice d.y.o1 d.y.q.t1.length d.y.c1, .slice d.y.o2 d.y.q.q1.length d.y.c2, .bool d.y.q.b2, .slice d.y.o3 d.y.q.t2.length d.y.c3, .slice d.y.o4 d.y.q.q2.length d.y.c4, .string d.s, .slice d.ro d.rl.length d.rc, .slice d.lo ts.length d.lc]) rfl rfl) ?_
 intro a hA
 rcases Bool.eq_false_or_eq_true ((jr 1 20000 (Dt.mk d ts).tr).1) with hb5 | hb5
 · refine qm hA rfl rfl rfl (qh rfl rfl (fun w => by kernel_rfl)) ((hb5 ▸ fits_any (Dt.keep hM.bel _ hrd))) ?_
   rintro _ w7 ⟨rfl, hb6⟩
   replace hM := hM.call hb6
   refine ⟨_, rfl, ?_⟩
   intro a hA
   refine qa hA rfl rfl rfl (qe rfl) ?_
   intro a hA
   refine qa hA rfl rfl rfl (jf hM TrC_isS_31 rfl 0 rfl (cs := [.int .i64 d.k, .int .i64 d.n, .bool d.y.q.b1, .slice d.y.o1 d.y.q.t1.length d.y.c1, .slice d.y.o2 d.y.q.q1.length d.y.c2, .bool d.y.q.b2, .slice d.y.o3 d.y.q.t2.length d.y.c3, .slice d.y.o4 d.y.q.q2.length d.y.c4, .string d.s, .slice d.ro d.rl.length d.rc, .slice d.lo ts.length d.lc]) rfl rfl) ?_
   intro a hA
   rcases Bool.eq_false_or_eq_true (xj zl (Dt.mk d ts).tr) with hb8 | hb8
   · refine qm hA rfl rfl rfl (qh rfl rfl (fun w => by kernel_rfl)) ((hb8 ▸ qfc (Dt.mk d ts) (Dt.keep hM.bel _ hrd) (hT.below hM.bel))) ?_
     rintro _ w10 ⟨rfl, hb9⟩
     replace hM := hM.call hb9
     refine ⟨_, rfl, ?_⟩
     intro a hA
     refine qa (v := .bool true) hA rfl rfl rfl (qi rfl rfl rfl rfl) ?_
     intro a hA
     refine qa hA rfl rfl rfl (qb rfl) ?_
     intro a hA
     refine qf ?_
     refine hK4 _ _ ?_
     refine wp_ret ?_
     refine hret _ _ ?_
     refine ze (v := .bool true) hA rfl (.cons (ql rfl) .nil) rfl ?_
     exact ⟨by unfold jv; simp_all, hM.bel⟩
   · refine qm hA rfl rfl rfl (qh rfl rfl (fun w => by kernel_rfl)) ((hb8 ▸ qfc (Dt.mk d ts) (Dt.keep hM.bel _ hrd) (hT.below hM.bel))) ?_
     rintro _ w12 ⟨rfl, hb11⟩
     replace hM := hM.call hb11
     refine ⟨_, rfl, ?_⟩
     intro a hA
     refine qa (v := .bool false) hA rfl rfl rfl (qi rfl rfl rfl rfl) ?_
     intro a hA
     refine qa hA rfl rfl rfl (qb rfl) ?_
     intro a hA
     refine qf ?_
     refine hK4 _ _ ?_
     refine wp_ret ?_
     refine hret _ _ ?_
     refine ze (v := .bool false) hA rfl (.cons (ql rfl) .nil) rfl ?_
     exact ⟨by unfold jv; simp_all, hM.bel⟩
 · refine qm hA rfl rfl rfl (qh rfl rfl (fun w => by kernel_rfl)) ((hb5 ▸ fits_any (Dt.keep hM.bel _ hrd))) ?_
   rintro _ w14 ⟨rfl, hb13⟩
   replace hM := hM.call hb13
   refine ⟨_, rfl, ?_⟩
   intro a hA
   refine qa hA rfl rfl rfl (qe rfl) ?_
   intro a hA
   refine qj hA rfl rfl rfl ?_
   intro a hA
   refine qj hA rfl rfl rfl ?_
   intro a hA
   refine qa (v := .bool false) hA rfl rfl rfl (qi rfl rfl rfl rfl) ?_
   intro a hA
   refine qa hA rfl rfl rfl (qb rfl) ?_
   intro a hA
   refine qf ?_
   refine hK4 _ _ ?_
   refine wp_ret ?_
   refine hret _ _ ?_
   refine ze (v := .bool false) hA rfl (.cons (ql rfl) .nil) rfl ?_
   exact ⟨by unfold jv; simp_all, hM.bel⟩
theorem sound_any {w : World} {t : Dt} (hrd : t.rd w) (hT : Tabs8 w) : Calls Tryz.prog 8 #[.agg t.cells.toArray] w fun e w' => e = .returned (.bool (jv zl t.tr)) ∧ Below w.heap.size w w' := by
  obtain ⟨d, ts⟩ := t
  exact sound_mk hrd hT
end Go.Proofs.YtoopkbedjbnhhabGreatDoor.G
namespace Go.Proofs.YtoopkbedjbnhhabGreatDoor.G
open Go.RowKit
set_option maxRecDepth 100000
theorem JcF_isS_31 : IsS Tryz.prog 31 11 := ⟨⟨_, Tryz.underlying31⟩, by kernel_rfl⟩
theorem qaa {w w5 w' : World} (h : w.heap.size ≤ w5.heap.size) : made w5 w' ⊆ made w w' := fun c hc => by
  obtain ⟨b, o, rfl, h1, h2⟩ := kw hc
  have hlt := (Array.getElem?_eq_some_iff.1 h2).1
  exact uy (by omega) (by omega) h2
theorem Its.ok {w0 : World} {t : Dt} {xs : List Dt} {n : Nat} (h : Its w0 t xs) (hb : t.tr.bulk ≤ n + 1) (k : Nat) : ItOk w0 n (xs.drop k) := ⟨fun x hx => h.rd x (qid hx), fun x hx => h.sh x (qid hx), fun x hx => by have := h.lt x (qid hx); omega⟩
theorem Its.ok0 {w0 : World} {t : Dt} {xs : List Dt} {n : Nat} (h : Its w0 t xs) (hb : t.tr.bulk ≤ n + 1) : ItOk w0 n xs := ⟨h.rd, h.sh, fun x hx => by have := h.lt x hx; omega⟩
theorem Its.as {w0 : World} {t : Dt} {xs : List Dt} (h : Its w0 t xs) (ha : (xx t.tr).isSome = true) : xx t.tr = some (xs.map Dt.tr) := by
  obtain ⟨l, hl⟩ := Option.isSome_iff_exists.1 ha
  rw [hl, h.is l hl]
theorem kr {α : Type} {o : Option α} (h : o.isSome = false) : o = none := by simpa using h
theorem sub_any {w0 w : World} {n : Nat} {t : Dt} (h0 : Below w0.heap.size w0 w) (ht : t.rd w0) (hs : xj zl t.tr = true) (hb : t.tr.bulk ≤ n + 1) (hn : n + 1 ≤ 4000000) (ih : Subs n) : Calls Tryz.prog 38 #[.agg (t.d.cells t.ts.length).toArray] w fun e w' => ∃ fv, e = .returned (.tuple #[fv, .bool (xr (n + 1) t.tr).isSome]) ∧ (∀ p, xr (n + 1) t.tr = some p → TV RN w0 (made w w') fv p) ∧ Below w.heap.size w w' := by
 have hM : Mg w w ([]) := Mg.start w
 refine zb (l := [(0, .agg (t.d.cells t.ts.length).toArray)]) Tryz.func38 rfl Tryz.ntmps38 rfl rfl ?_
 intro Q hret hnorm hP a hA
 refine wp_seq_k (fun K1 hK1 => ?_)
 refine wp_region_lit ?_
 refine jc (vs := (t.d.cells t.ts.length)) (t := 31) hA hM rfl rfl rfl (fun g => .pointer (some ⟨g, 0, none⟩)) (zm rfl rfl) (by decide) ?_
 intro g2 w3 hM a hA
 refine qa hA rfl rfl rfl (qb rfl) ?_
 intro a hA
 refine qa hA rfl rfl rfl (qb rfl) ?_
 intro a hA
 refine qf ?_
 refine hK1 _ _ ?_
 refine wp_seq_k (fun K4 hK4 => ?_)
 refine wp_seq_k (fun K5 hK5 => ?_)
 refine wp_region_lit ?_
 refine qa hA rfl rfl rfl (jf hM JcF_isS_31 rfl 0 rfl (cs := (t.d.cells t.ts.length)) rfl rfl) ?_
 intro a hA
 rcases Bool.eq_false_or_eq_true ((xm t.tr).isSome) with hb6 | hb6
 · refine qm hA rfl rfl rfl (qh rfl rfl (fun w => by kernel_rfl)) ((hb6 ▸ uj (Dt.keep (h0.trans (hM.bel.mono h0.size)) _ ht))) ?_
   rintro _ w8 ⟨rfl, hb7⟩
   replace hM := hM.call hb7
   refine ⟨_, rfl, ?_⟩
   intro a hA
   refine qa hA rfl rfl rfl (qe rfl) ?_
   intro a hA
   refine qa (v := .int .i64 ((zu t.d.y.q).1)) hA rfl rfl rfl (qn (vs := [.int .i64 ((zu t.d.y.q).1), .bool true]) rfl rfl) ?_
   intro a hA
   refine qa (v := .bool true) hA rfl rfl rfl (qn (vs := [.int .i64 ((zu t.d.y.q).1), .bool true]) rfl rfl) ?_
   intro a hA
   refine jc (vs := [.int .i64 0]) (t := 3) hA hM rfl rfl rfl (fun g => .pointer (some ⟨g, 0, none⟩)) (zd (z := .int .i64 0) (by kernel_rfl) rfl) (by decide) ?_
   intro g9 w10 hM a hA
   refine zq (us := [.int .i64 ((zu t.d.y.q).1)]) (L' := (.obj g9 (.cells #[.int .i64 ((zu t.d.y.q).1)] 3) :: .obj g2 (.cells (t.d.cells t.ts.length).toArray 31) :: [])) hA hM rfl rfl (zh rfl rfl rfl (by kernel_rfl) hM 0 rfl rfl rfl) 0 rfl rfl rfl ?_
   intro w11 hM
   refine qa hA rfl rfl rfl (qb rfl) ?_
   intro a hA
   refine qf ?_
   refine hK5 _ _ ?_
   refine wp_seq_k (fun K12 hK12 => ?_)
   refine wp_region_lit ?_
   refine qa hA rfl rfl rfl (qe rfl) ?_
   intro a hA
   refine qf ?_
   refine hK12 _ _ ?_
   refine wp_cond_true (hA.ev rfl) ?_
   refine wp_seq_k (fun K13 hK13 => ?_)
   refine wp_region_lit ?_
   refine qa (v := .func (.func 58) #[] [.pointer (some ⟨g9, 0, none⟩)].toArray) hA rfl rfl rfl (zx rfl) ?_
   intro a hA
   refine qa hA rfl rfl rfl (qb rfl) ?_
   intro a hA
   refine qa hA rfl rfl rfl (qb rfl) ?_
   intro a hA
   refine qf ?_
   refine hK13 _ _ ?_
   refine wp_ret ?_
   refine hret _ _ ?_
   refine ze (v := .tuple #[.func (.func 58) #[] [.pointer (some ⟨g9, 0, none⟩)].toArray, .bool true]) hA rfl (.cons (ql rfl) (.cons (ql rfl) .nil)) rfl ?_
   obtain ⟨z9, hz9⟩ := Option.isSome_iff_exists.1 hb6
   have e8 := num_is hz9
   rw [e8] at hM
   have e9 := sub_num (n := n) hz9
   exact ⟨_, by rw [e9]; rfl, fun p hp => (by rw [e9] at hp; cases hp; exact tvE hM), hM.bel⟩
 · refine qm hA rfl rfl rfl (qh rfl rfl (fun w => by kernel_rfl)) ((hb6 ▸ uj (Dt.keep (h0.trans (hM.bel.mono h0.size)) _ ht))) ?_
   rintro _ w15 ⟨rfl, hb14⟩
   replace hM := hM.call hb14
   refine ⟨_, rfl, ?_⟩
   intro a hA
   refine qa hA rfl rfl rfl (qe rfl) ?_
   intro a hA
   refine qa (v := .int .i64 ((zu t.d.y.q).1)) hA rfl rfl rfl (qn (vs := [.int .i64 ((zu t.d.y.q).1), .bool false]) rfl rfl) ?_
   intro a hA
   refine qa (v := .bool false) hA rfl rfl rfl (qn (vs := [.int .i64 ((zu t.d.y.q).1), .bool false]) rfl rfl) ?_
   intro a hA
   refine jc (vs := [.int .i64 0]) (t := 3) hA hM rfl rfl rfl (fun g => .pointer (some ⟨g, 0, none⟩)) (zd (z := .int .i64 0) (by kernel_rfl) rfl) (by decide) ?_
   intro g16 w17 hM a hA
   refine zq (us := [.int .i64 ((zu t.d.y.q).1)]) (L' := (.obj g16 (.cells #[.int .i64 ((zu t.d.y.q).1)] 3) :: .obj g2 (.cells (t.d.cells t.ts.length).toArray 31) :: [])) hA hM rfl rfl (zh rfl rfl rfl (by kernel_rfl) hM 0 rfl rfl rfl) 0 rfl rfl rfl ?_
   intro w18 hM
   refine qa hA rfl rfl rfl (qb rfl) ?_
   intro a hA
   refine qf ?_
   refine hK5 _ _ ?_
   refine wp_seq_k (fun K19 hK19 => ?_)
   refine wp_region_lit ?_
   refine qa hA rfl rfl rfl (qe rfl) ?_
   intro a hA
   refine qf ?_
   refine hK19 _ _ ?_
   refine wp_cond_false (hA.ev rfl) ?_
   refine wp_skip ?_
   refine hK4 _ _ ?_
   refine wp_seq_k (fun K20 hK20 => ?_)
   refine wp_region_lit ?_
   refine qa hA rfl rfl rfl (jf hM JcF_isS_31 rfl 1 rfl (cs := (t.d.cells t.ts.length)) rfl rfl) ?_
   intro a hA
   rcases Bool.eq_false_or_eq_true ((xx t.tr).isSome) with hb21 | hb21
   · refine qm hA rfl rfl rfl (qh rfl rfl (fun w => by kernel_rfl)) ((hb21 ▸ qag (h0.trans (hM.bel.mono h0.size)) ht hs (by omega))) ?_
     rintro _ w25 ⟨so22, ca23, xs, rfl, hIt, hM24⟩
     replace hM : Mg w w25 (.row 31 11 (.slice so22 xs.length ca23) xs.length (cellsOf xs) :: .obj g16 (.cells #[.int .i64 ((zu t.d.y.q).1)] 3) :: .obj g2 (.cells (t.d.cells t.ts.length).toArray 31) :: []) := (hM.both hM24 (qr (by simp) (qr (by simp) (qp qw))) (qr (by simp) (qp qw)))
     refine ⟨_, rfl, ?_⟩
     intro a hA
     refine qa hA rfl rfl rfl (qe rfl) ?_
     intro a hA
     refine qa (v := .slice so22 xs.length ca23) hA rfl rfl rfl (qn (vs := [.slice so22 xs.length ca23, .bool true]) rfl rfl) ?_
     intro a hA
     refine qa (v := .bool true) hA rfl rfl rfl (qn (vs := [.slice so22 xs.length ca23, .bool true]) rfl rfl) ?_
     intro a hA
     refine qa hA rfl rfl rfl (qb rfl) ?_
     intro a hA
     refine qa hA rfl rfl rfl (qb rfl) ?_
     intro a hA
     refine qf ?_
     refine hK20 _ _ ?_
     refine wp_seq_k (fun K26 hK26 => ?_)
     refine wp_region_lit ?_
     refine qa hA rfl rfl rfl (qe rfl) ?_
     intro a hA
     rcases Bool.eq_false_or_eq_true (isW xs) with hb27 | hb27
     · refine qm hA rfl rfl rfl (qh rfl rfl (fun w => by kernel_rfl)) (cut_any (kk (hM.has 0 rfl)).1 (fun x hx => Dt.keep (h0.trans (hM.bel.mono h0.size)) _ (hIt.rd x hx)) (by have := hIt.le; omega) hb27) ?_
       rintro _ w29 ⟨rfl, hb28⟩
       replace hM := hM.call hb28
       refine ⟨_, rfl, ?_⟩
       intro a hA
       refine qa hA rfl rfl rfl (qe rfl) ?_
       intro a hA
       refine qa (v := .string (xa xs)) hA rfl rfl rfl (qn (vs := [.string (xa xs), .slice ((if ca23 = 1 then so22 else so22.map (·.add (1 * 11)))) ((xs.drop 1).length) ((ca23 - 1)), .bool true]) rfl rfl) ?_
       intro a hA
       refine qa (v := .slice ((if ca23 = 1 then so22 else so22.map (·.add (1 * 11)))) ((xs.drop 1).length) ((ca23 - 1))) hA rfl rfl rfl (qn (vs := [.string (xa xs), .slice ((if ca23 = 1 then so22 else so22.map (·.add (1 * 11)))) ((xs.drop 1).length) ((ca23 - 1)), .bool true]) rfl rfl) ?_
       intro a hA
       refine qa (v := .bool true) hA rfl rfl rfl (qn (vs := [.string (xa xs), .slice ((if ca23 = 1 then so22 else so22.map (·.add (1 * 11)))) ((xs.drop 1).length) ((ca23 - 1)), .bool true]) rfl rfl) ?_
       intro a hA
       refine qa hA rfl rfl rfl (qb rfl) ?_
       intro a hA
       refine qa hA rfl rfl rfl (qb rfl) ?_
       intro a hA
       refine qa hA rfl rfl rfl (qb rfl) ?_
       intro a hA
       refine qf ?_
       refine hK26 _ _ ?_
       refine wp_seq_k (fun K30 hK30 => ?_)
       refine wp_block ?_
       refine wp_seq_k (fun K31 hK31 => ?_)
       refine wp_region_lit ?_
       refine qa hA rfl rfl rfl (qe rfl) ?_
       intro a hA
       refine qa (v := .bool false) hA rfl rfl rfl (qz rfl zg) ?_
       intro a hA
       refine qa hA rfl rfl rfl (qe rfl) ?_
       intro a hA
       refine qa hA rfl rfl rfl (qe rfl) ?_
       intro a hA
       refine qa (v := .bool false) hA rfl rfl rfl (qz rfl zg) ?_
       intro a hA
       refine qa (v := .bool false) hA rfl rfl rfl (qi rfl rfl rfl rfl) ?_
       intro a hA
       refine qa hA rfl rfl rfl (qb rfl) ?_
       intro a hA
       refine qf ?_
       refine hK31 _ _ ?_
       refine wp_cond_false (hA.ev rfl) ?_
       refine wp_seq_k (fun K32 hK32 => ?_)
       refine wp_region_lit ?_
       refine qa hA rfl rfl rfl (qe rfl) ?_
       intro a hA
       rcases Bool.eq_false_or_eq_true (decide (xa xs = ⟨#[62, 61]⟩)) with hb33 | hb33
       · have hb33' := of_decide_eq_true hb33
         refine qa (v := .bool true) hA rfl rfl rfl (qg rfl rfl (fun w => (jw Tryz.underlying9 w).trans (by rw [hb33] <;> rfl))) ?_
         intro a hA
         refine qa hA rfl rfl rfl (qb rfl) ?_
         intro a hA
         refine qf ?_
         refine hK32 _ _ ?_
         refine wp_cond_true (hA.ev rfl) ?_
         refine wp_seq_k (fun K34 hK34 => ?_)
         refine wp_region_lit ?_
         refine qa hA rfl rfl rfl (qe rfl) ?_
         intro a hA
         have hz36 := hM.bel.size
         refine qm hA rfl rfl rfl (qh rfl rfl (fun w => by kernel_rfl)) (boundOf2_any (h0.trans (hM.bel.mono h0.size)) ((kk (hM.has 0 rfl)).1.drop ca23 1 (qga (hM.has 0 rfl))) (hIt.ok hb 1) (by have := hIt.le; rw [List.length_drop]; omega)) ?_
         rintro _ w37 ⟨fv9, rfl, hT9, hb35⟩
         replace hM := hM.call hb35
         refine ⟨_, rfl, ?_⟩
         intro a hA
         refine qa (v := fv9) hA rfl rfl rfl (qn (vs := [fv9, .bool (((jy ((xs.drop 1).map fun x : Dt => xm x.tr)).map fun b => fun z => decide (b ≤ z)).isSome)]) rfl rfl) ?_
         intro a hA
         refine qa (v := .bool (((jy ((xs.drop 1).map fun x : Dt => xm x.tr)).map fun b => fun z => decide (b ≤ z)).isSome)) hA rfl rfl rfl (qn (vs := [fv9, .bool (((jy ((xs.drop 1).map fun x : Dt => xm x.tr)).map fun b => fun z => decide (b ≤ z)).isSome)]) rfl rfl) ?_
         intro a hA
         refine qa hA rfl rfl rfl (qb rfl) ?_
         intro a hA
         refine qa hA rfl rfl rfl (qb rfl) ?_
         intro a hA
         refine qf ?_
         refine hK34 _ _ ?_
         refine wp_ret ?_
         refine hret _ _ ?_
         refine ze (v := .tuple #[fv9, .bool (((jy ((xs.drop 1).map fun x : Dt => xm x.tr)).map fun b => fun z => decide (b ≤ z)).isSome)]) hA rfl (.cons (ql rfl) (.cons (ql rfl) .nil)) rfl ?_
         have hn9 := kr hb6
         have ha9 := hIt.as hb21
         have hw38 : xa xs = wGe := of_decide_eq_true hb33
         have e9 := (qie (n := n) hn9 ha9 hb27).trans (by rw [if_pos hw38])
         exact ⟨_, by rw [e9], fun p hp => (hT9 p (by rw [e9] at hp; exact hp)).sub (qaa hz36), hM.bel⟩
       · have hb33' := of_decide_eq_false hb33
         refine qa (v := .bool false) hA rfl rfl rfl (qg rfl rfl (fun w => (jw Tryz.underlying9 w).trans (by rw [hb33] <;> rfl))) ?_
         intro a hA
         refine qa hA rfl rfl rfl (qb rfl) ?_
         intro a hA
         refine qf ?_
         refine hK32 _ _ ?_
         refine wp_cond_false (hA.ev rfl) ?_
         refine wp_seq_k (fun K39 hK39 => ?_)
         refine wp_region_lit ?_
         refine qa hA rfl rfl rfl (qe rfl) ?_
         intro a hA
         rcases Bool.eq_false_or_eq_true (decide (xa xs = ⟨#[60, 61]⟩)) with hb40 | hb40
         · have hb40' := of_decide_eq_true hb40
           refine qa (v := .bool true) hA rfl rfl rfl (qg rfl rfl (fun w => (jw Tryz.underlying9 w).trans (by rw [hb40] <;> rfl))) ?_
           intro a hA
           refine qa hA rfl rfl rfl (qb rfl) ?_
           intro a hA
           refine qf ?_
           refine hK39 _ _ ?_
           refine wp_cond_true (hA.ev rfl) ?_
           refine wp_seq_k (fun K41 hK41 => ?_)
           refine wp_region_lit ?_
           refine qa hA rfl rfl rfl (qe rfl) ?_
           intro a hA
           have hz43 := hM.bel.size
           refine qm hA rfl rfl rfl (qh rfl rfl (fun w => by kernel_rfl)) (boundOf3_any (h0.trans (hM.bel.mono h0.size)) ((kk (hM.has 0 rfl)).1.drop ca23 1 (qga (hM.has 0 rfl))) (hIt.ok hb 1) (by have := hIt.le; rw [List.length_drop]; omega)) ?_
           rintro _ w44 ⟨fv9, rfl, hT9, hb42⟩
           replace hM := hM.call hb42
           refine ⟨_, rfl, ?_⟩
           intro a hA
           refine qa (v := fv9) hA rfl rfl rfl (qn (vs := [fv9, .bool (((jy ((xs.drop 1).map fun x : Dt => xm x.tr)).map fun b => fun z => decide (z ≤ b)).isSome)]) rfl rfl) ?_
           intro a hA
           refine qa (v := .bool (((jy ((xs.drop 1).map fun x : Dt => xm x.tr)).map fun b => fun z => decide (z ≤ b)).isSome)) hA rfl rfl rfl (qn (vs := [fv9, .bool (((jy ((xs.drop 1).map fun x : Dt => xm x.tr)).map fun b => fun z => decide (z ≤ b)).isSome)]) rfl rfl) ?_
           intro a hA
           refine qa hA rfl rfl rfl (qb rfl) ?_
           intro a hA
           refine qa hA rfl rfl rfl (qb rfl) ?_
           intro a hA
           refine qf ?_
           refine hK41 _ _ ?_
           refine wp_ret ?_
           refine hret _ _ ?_
           refine ze (v := .tuple #[fv9, .bool (((jy ((xs.drop 1).map fun x : Dt => xm x.tr)).map fun b => fun z => decide (z ≤ b)).isSome)]) hA rfl (.cons (ql rfl) (.cons (ql rfl) .nil)) rfl ?_
           have hn9 := kr hb6
           have ha9 := hIt.as hb21
           have hw45 : ¬ xa xs = wGe := of_decide_eq_false hb33
           have hw46 : xa xs = wLe := of_decide_eq_true hb40
           have e9 := (qie (n := n) hn9 ha9 hb27).trans (by rw [if_neg hw45, if_pos hw46])
           exact ⟨_, by rw [e9], fun p hp => (hT9 p (by rw [e9] at hp; exact hp)).sub (qaa hz43), hM.bel⟩
         · have hb40' := of_decide_eq_false hb40
           refine qa (v := .bool false) hA rfl rfl rfl (qg rfl rfl (fun w => (jw Tryz.underlying9 w).trans (by rw [hb40] <;> rfl))) ?_
           intro a hA
           refine qa hA rfl rfl rfl (qb rfl) ?_
           intro a hA
           refine qf ?_
           refine hK39 _ _ ?_
           refine wp_cond_false (hA.ev rfl) ?_
           refine wp_skip ?_
           refine hK30 _ _ ?_
           refine wp_seq_k (fun K47 hK47 => ?_)
           refine wp_region_lit ?_
           refine qa hA rfl rfl rfl (qe rfl) ?_
           intro a hA
           refine qa hA rfl rfl rfl (qe rfl) ?_
           intro a hA
           have hz49 := hM.bel.size
           refine qm hA rfl rfl rfl (qh rfl rfl (fun w => by kernel_rfl)) (joinedN_any (h0.trans (hM.bel.mono h0.size)) ((kk (hM.has 0 rfl)).1.drop ca23 1 (qga (hM.has 0 rfl))) (hIt.ok hb 1) (by have := hIt.le; rw [List.length_drop]; omega) ih) ?_
           rintro _ w50 ⟨fv9, rfl, hT9, hb48⟩
           replace hM := hM.call hb48
           refine ⟨_, rfl, ?_⟩
           intro a hA
           refine qa (v := fv9) hA rfl rfl rfl (qn (vs := [fv9, .bool ((jn (xa xs) ((xs.drop 1).map fun x : Dt => xr n x.tr)).isSome)]) rfl rfl) ?_
           intro a hA
           refine qa (v := .bool ((jn (xa xs) ((xs.drop 1).map fun x : Dt => xr n x.tr)).isSome)) hA rfl rfl rfl (qn (vs := [fv9, .bool ((jn (xa xs) ((xs.drop 1).map fun x : Dt => xr n x.tr)).isSome)]) rfl rfl) ?_
           intro a hA
           refine qa hA rfl rfl rfl (qb rfl) ?_
           intro a hA
           refine qa hA rfl rfl rfl (qb rfl) ?_
           intro a hA
           refine qf ?_
           refine hK47 _ _ ?_
           refine wp_ret ?_
           refine hret _ _ ?_
           refine ze (v := .tuple #[fv9, .bool ((jn (xa xs) ((xs.drop 1).map fun x : Dt => xr n x.tr)).isSome)]) hA rfl (.cons (ql rfl) (.cons (ql rfl) .nil)) rfl ?_
           have hn9 := kr hb6
           have ha9 := hIt.as hb21
           have hw51 : ¬ xa xs = wGe := of_decide_eq_false hb33
           have hw52 : ¬ xa xs = wLe := of_decide_eq_false hb40
           have e9 := (qie (n := n) hn9 ha9 hb27).trans (by rw [if_neg hw51, if_neg hw52])
           exact ⟨_, by rw [e9], fun p hp => (hT9 p (by rw [e9] at hp; exact hp)).sub (qaa hz49), hM.bel⟩
     · refine qm hA rfl rfl rfl (qh rfl rfl (fun w => by kernel_rfl)) (cut_no (kk (hM.has 0 rfl)).1 (fun x hx => Dt.keep (h0.trans (hM.bel.mono h0.size)) _ (hIt.rd x hx)) (by have := hIt.le; omega) hb27) ?_
       rintro _ w54 ⟨rfl, hb53⟩
       replace hM := hM.call hb53
       refine ⟨_, rfl, ?_⟩
       intro a hA
       refine qa hA rfl rfl rfl (qe rfl) ?_
       intro a hA
       refine qa (v := .string (⟨#[]⟩)) hA rfl rfl rfl (qn (vs := [.string (⟨#[]⟩), .slice none 0 0, .bool false]) rfl rfl) ?_
       intro a hA
       refine qa (v := .slice none 0 0) hA rfl rfl rfl (qn (vs := [.string (⟨#[]⟩), .slice none 0 0, .bool false]) rfl rfl) ?_
       intro a hA
       refine qa (v := .bool false) hA rfl rfl rfl (qn (vs := [.string (⟨#[]⟩), .slice none 0 0, .bool false]) rfl rfl) ?_
       intro a hA
       refine qa hA rfl rfl rfl (qb rfl) ?_
       intro a hA
       refine qa hA rfl rfl rfl (qb rfl) ?_
       intro a hA
       refine qa hA rfl rfl rfl (qb rfl) ?_
       intro a hA
       refine qf ?_
       refine hK26 _ _ ?_
       refine wp_seq_k (fun K55 hK55 => ?_)
       refine wp_block ?_
       refine wp_seq_k (fun K56 hK56 => ?_)
       refine wp_region_lit ?_
       refine qa hA rfl rfl rfl (qe rfl) ?_
       intro a hA
       refine qa (v := .bool false) hA rfl rfl rfl (qz rfl zg) ?_
       intro a hA
       refine qa hA rfl rfl rfl (qe rfl) ?_
       intro a hA
       refine qa hA rfl rfl rfl (qe rfl) ?_
       intro a hA
       refine qa (v := .bool true) hA rfl rfl rfl (qz rfl zg) ?_
       intro a hA
       refine qa (v := .bool true) hA rfl rfl rfl (qi rfl rfl rfl rfl) ?_
       intro a hA
       refine qa hA rfl rfl rfl (qb rfl) ?_
       intro a hA
       refine qf ?_
       refine hK56 _ _ ?_
       refine wp_cond_true (hA.ev rfl) ?_
       refine wp_seq_k (fun K57 hK57 => ?_)
       refine wp_region_lit ?_
       refine qa hA rfl rfl rfl (qb rfl) ?_
       intro a hA
       refine qa hA rfl rfl rfl (qb rfl) ?_
       intro a hA
       refine qf ?_
       refine hK57 _ _ ?_
       refine wp_ret ?_
       refine hret _ _ ?_
       refine ze (v := .tuple #[.nilFunc, .bool false]) hA rfl (.cons (ql rfl) (.cons (ql rfl) .nil)) rfl ?_
       have hn9 := kr hb6
       have ha9 := hIt.as hb21
       have e9 := sub_row (n := n) hn9 ha9 hb27
       exact ⟨_, by rw [e9]; rfl, fun p hp => (by rw [e9] at hp; cases hp), hM.bel⟩
   · refine qm hA rfl rfl rfl (qh rfl rfl (fun w => by kernel_rfl)) ((hb21 ▸ qag (h0.trans (hM.bel.mono h0.size)) ht hs (by omega))) ?_
     rintro _ w61 ⟨so58, ca59, xs, rfl, hIt, hM60⟩
     replace hM : Mg w w61 (.row 31 11 (.slice so58 xs.length ca59) xs.length (cellsOf xs) :: .obj g16 (.cells #[.int .i64 ((zu t.d.y.q).1)] 3) :: .obj g2 (.cells (t.d.cells t.ts.length).toArray 31) :: []) := (hM.both hM60 (qr (by simp) (qr (by simp) (qp qw))) (qr (by simp) (qp qw)))
     refine ⟨_, rfl, ?_⟩
     intro a hA
     refine qa hA rfl rfl rfl (qe rfl) ?_
     intro a hA
     refine qa (v := .slice so58 xs.length ca59) hA rfl rfl rfl (qn (vs := [.slice so58 xs.length ca59, .bool false]) rfl rfl) ?_
     intro a hA
     refine qa (v := .bool false) hA rfl rfl rfl (qn (vs := [.slice so58 xs.length ca59, .bool false]) rfl rfl) ?_
     intro a hA
     refine qa hA rfl rfl rfl (qb rfl) ?_
     intro a hA
     refine qa hA rfl rfl rfl (qb rfl) ?_
     intro a hA
     refine qf ?_
     refine hK20 _ _ ?_
     refine wp_seq_k (fun K62 hK62 => ?_)
     refine wp_region_lit ?_
     refine qa hA rfl rfl rfl (qe rfl) ?_
     intro a hA
     rcases Bool.eq_false_or_eq_true (isW xs) with hb63 | hb63
     · refine qm hA rfl rfl rfl (qh rfl rfl (fun w => by kernel_rfl)) (cut_any (kk (hM.has 0 rfl)).1 (fun x hx => Dt.keep (h0.trans (hM.bel.mono h0.size)) _ (hIt.rd x hx)) (by have := hIt.le; omega) hb63) ?_
       rintro _ w65 ⟨rfl, hb64⟩
       replace hM := hM.call hb64
       refine ⟨_, rfl, ?_⟩
       intro a hA
       refine qa hA rfl rfl rfl (qe rfl) ?_
       intro a hA
       refine qa (v := .string (xa xs)) hA rfl rfl rfl (qn (vs := [.string (xa xs), .slice ((if ca59 = 1 then so58 else so58.map (·.add (1 * 11)))) ((xs.drop 1).length) ((ca59 - 1)), .bool true]) rfl rfl) ?_
       intro a hA
       refine qa (v := .slice ((if ca59 = 1 then so58 else so58.map (·.add (1 * 11)))) ((xs.drop 1).length) ((ca59 - 1))) hA rfl rfl rfl (qn (vs := [.string (xa xs), .slice ((if ca59 = 1 then so58 else so58.map (·.add (1 * 11)))) ((xs.drop 1).length) ((ca59 - 1)), .bool true]) rfl rfl) ?_
       intro a hA
       refine qa (v := .bool true) hA rfl rfl rfl (qn (vs := [.string (xa xs), .slice ((if ca59 = 1 then so58 else so58.map (·.add (1 * 11)))) ((xs.drop 1).length) ((ca59 - 1)), .bool true]) rfl rfl) ?_
       intro a hA
       refine qa hA rfl rfl rfl (qb rfl) ?_
       intro a hA
       refine qa hA rfl rfl rfl (qb rfl) ?_
       intro a hA
       refine qa hA rfl rfl rfl (qb rfl) ?_
       intro a hA
       refine qf ?_
       refine hK62 _ _ ?_
       refine wp_seq_k (fun K66 hK66 => ?_)
       refine wp_block ?_
       refine wp_seq_k (fun K67 hK67 => ?_)
       refine wp_region_lit ?_
       refine qa hA rfl rfl rfl (qe rfl) ?_
       intro a hA
       refine qa (v := .bool true) hA rfl rfl rfl (qz rfl zg) ?_
       intro a hA
       refine qa hA rfl rfl rfl (qe rfl) ?_
       intro a hA
       refine qj hA rfl rfl rfl ?_
       intro a hA
       refine qj hA rfl rfl rfl ?_
       intro a hA
       refine qa (v := .bool true) hA rfl rfl rfl (qi rfl rfl rfl rfl) ?_
       intro a hA
       refine qa hA rfl rfl rfl (qb rfl) ?_
       intro a hA
       refine qf ?_
       refine hK67 _ _ ?_
       refine wp_cond_true (hA.ev rfl) ?_
       refine wp_seq_k (fun K68 hK68 => ?_)
       refine wp_region_lit ?_
       refine qa hA rfl rfl rfl (qb rfl) ?_
       intro a hA
       refine qa hA rfl rfl rfl (qb rfl) ?_
       intro a hA
       refine qf ?_
       refine hK68 _ _ ?_
       refine wp_ret ?_
       refine hret _ _ ?_
       refine ze (v := .tuple #[.nilFunc, .bool false]) hA rfl (.cons (ql rfl) (.cons (ql rfl) .nil)) rfl ?_
       have hn9 := kr hb6
       have e9 := sub_none (n := n) hn9 (kr hb21)
       exact ⟨_, by rw [e9]; rfl, fun p hp => (by rw [e9] at hp; cases hp), hM.bel⟩
     · refine qm hA rfl rfl rfl (qh rfl rfl (fun w => by kernel_rfl)) (cut_no (kk (hM.has 0 rfl)).1 (fun x hx => Dt.keep (h0.trans (hM.bel.mono h0.size)) _ (hIt.rd x hx)) (by have := hIt.le; omega) hb63) ?_
       rintro _ w70 ⟨rfl, hb69⟩
       replace hM := hM.call hb69
       refine ⟨_, rfl, ?_⟩
       intro a hA
       refine qa hA rfl rfl rfl (qe rfl) ?_
       intro a hA
       refine qa (v := .string (⟨#[]⟩)) hA rfl rfl rfl (qn (vs := [.string (⟨#[]⟩), .slice none 0 0, .bool false]) rfl rfl) ?_
       intro a hA
       refine qa (v := .slice none 0 0) hA rfl rfl rfl (qn (vs := [.string (⟨#[]⟩), .slice none 0 0, .bool false]) rfl rfl) ?_
       intro a hA
       refine qa (v := .bool false) hA rfl rfl rfl (qn (vs := [.string (⟨#[]⟩), .slice none 0 0, .bool false]) rfl rfl) ?_
       intro a hA
       refine qa hA rfl rfl rfl (qb rfl) ?_
       intro a hA
       refine qa hA rfl rfl rfl (qb rfl) ?_
       intro a hA
       refine qa hA rfl rfl rfl (qb rfl) ?_
       intro a hA
       refine qf ?_
       refine hK62 _ _ ?_
       refine wp_seq_k (fun K71 hK71 => ?_)
       refine wp_block ?_
       refine wp_seq_k (fun K72 hK72 => ?_)
       refine wp_region_lit ?_
       refine qa hA rfl rfl rfl (qe rfl) ?_
       intro a hA
       refine qa (v := .bool true) hA rfl rfl rfl (qz rfl zg) ?_
       intro a hA
       refine qa hA rfl rfl rfl (qe rfl) ?_
       intro a hA
       refine qj hA rfl rfl rfl ?_
       intro a hA
       refine qj hA rfl rfl rfl ?_
       intro a hA
       refine qa (v := .bool true) hA rfl rfl rfl (qi rfl rfl rfl rfl) ?_
       intro a hA
       refine qa hA rfl rfl rfl (qb rfl) ?_
       intro a hA
       refine qf ?_
       refine hK72 _ _ ?_
       refine wp_cond_true (hA.ev rfl) ?_
       refine wp_seq_k (fun K73 hK73 => ?_)
       refine wp_region_lit ?_
       refine qa hA rfl rfl rfl (qb rfl) ?_
       intro a hA
       refine qa hA rfl rfl rfl (qb rfl) ?_
       intro a hA
       refine qf ?_
       refine hK73 _ _ ?_
       refine wp_ret ?_
       refine hret _ _ ?_
       refine ze (v := .tuple #[.nilFunc, .bool false]) hA rfl (.cons (ql rfl) (.cons (ql rfl) .nil)) rfl ?_
       have hn9 := kr hb6
       have e9 := sub_none (n := n) hn9 (kr hb21)
       exact ⟨_, by rw [e9]; rfl, fun p hp => (by rw [e9] at hp; cases hp), hM.bel⟩
theorem subs_all : ∀ n : Nat, n ≤ 4000000 → Subs n
  | 0, _ => by intro h0 ht hs hb; exact absurd (Nat.le_trans (qhg _) hb) (Nat.not_succ_le_zero _)
  | n + 1, hn => by intro h0 ht hs hb b he; exact he ▸ sub_any h0 ht hs hb hn (subs_all n (by omega))
theorem ref_any {w0 w : World} {n : Nat} {t : Dt} (h0 : Below w0.heap.size w0 w) (ht : t.rd w0) (hs : xj zl t.tr = true) (hb : t.tr.bulk ≤ n + 1) (hn : n + 1 ≤ 4000000) (ih : Refs n) (ihs : Subs n) : Calls Tryz.prog 9 #[.agg (t.d.cells t.ts.length).toArray] w fun e w' => ∃ fv, e = .returned (.tuple #[fv, .bool (xh (n + 1) t.tr).isSome]) ∧ (∀ p, xh (n + 1) t.tr = some p → TV RV w0 (made w w') fv p) ∧ Below w.heap.size w w' := by
 have hM : Mg w w ([]) := Mg.start w
 refine zb (l := [(0, .agg (t.d.cells t.ts.length).toArray)]) Tryz.func9 rfl Tryz.ntmps9 rfl rfl ?_
 intro Q hret hnorm hP a hA
 refine wp_seq_k (fun K1 hK1 => ?_)
 refine wp_region_lit ?_
 refine jc (vs := (t.d.cells t.ts.length)) (t := 31) hA hM rfl rfl rfl (fun g => .pointer (some ⟨g, 0, none⟩)) (zm rfl rfl) (by decide) ?_
 intro g2 w3 hM a hA
 refine qa hA rfl rfl rfl (qb rfl) ?_
 intro a hA
 refine qa hA rfl rfl rfl (qb rfl) ?_
 intro a hA
 refine qf ?_
 refine hK1 _ _ ?_
 refine wp_seq_k (fun K4 hK4 => ?_)
 refine wp_region_lit ?_
 refine qa hA rfl rfl rfl (jf hM JcF_isS_31 rfl 0 rfl (cs := (t.d.cells t.ts.length)) rfl rfl) ?_
 intro a hA
 rcases Bool.eq_false_or_eq_true ((xx t.tr).isSome) with hb5 | hb5
 · refine qm hA rfl rfl rfl (qh rfl rfl (fun w => by kernel_rfl)) ((hb5 ▸ qag (h0.trans (hM.bel.mono h0.size)) ht hs (by omega))) ?_
   rintro _ w9 ⟨so6, ca7, xs, rfl, hIt, hM8⟩
   replace hM : Mg w w9 (.row 31 11 (.slice so6 xs.length ca7) xs.length (cellsOf xs) :: .obj g2 (.cells (t.d.cells t.ts.length).toArray 31) :: []) := (hM.both hM8 (qr (by simp) (qp qw)) (qr (by simp) (qp qw)))
   refine ⟨_, rfl, ?_⟩
   intro a hA
   refine qa hA rfl rfl rfl (qe rfl) ?_
   intro a hA
   refine qa (v := .slice so6 xs.length ca7) hA rfl rfl rfl (qn (vs := [.slice so6 xs.length ca7, .bool true]) rfl rfl) ?_
   intro a hA
   refine qa (v := .bool true) hA rfl rfl rfl (qn (vs := [.slice so6 xs.length ca7, .bool true]) rfl rfl) ?_
   intro a hA
   refine qa hA rfl rfl rfl (qb rfl) ?_
   intro a hA
   refine qa hA rfl rfl rfl (qb rfl) ?_
   intro a hA
   refine qf ?_
   refine hK4 _ _ ?_
   refine wp_seq_k (fun K10 hK10 => ?_)
   refine wp_seq_k (fun K11 hK11 => ?_)
   refine wp_region_lit ?_
   refine qa hA rfl rfl rfl (qe rfl) ?_
   intro a hA
   refine qa (v := .bool false) hA rfl rfl rfl (qz rfl zg) ?_
   intro a hA
   refine qf ?_
   refine hK11 _ _ ?_
   refine wp_cond_false (hA.ev rfl) ?_
   refine wp_skip ?_
   refine hK10 _ _ ?_
   refine wp_seq_k (fun K12 hK12 => ?_)
   refine wp_seq_k (fun K13 hK13 => ?_)
   refine wp_region_lit ?_
   refine qa hA rfl rfl rfl (qe rfl) ?_
   intro a hA
   rcases Bool.eq_false_or_eq_true (isW xs) with hb14 | hb14
   · refine qm hA rfl rfl rfl (qh rfl rfl (fun w => by kernel_rfl)) (cut_any (kk (hM.has 0 rfl)).1 (fun x hx => Dt.keep (h0.trans (hM.bel.mono h0.size)) _ (hIt.rd x hx)) (by have := hIt.le; omega) hb14) ?_
     rintro _ w16 ⟨rfl, hb15⟩
     replace hM := hM.call hb15
     refine ⟨_, rfl, ?_⟩
     intro a hA
     refine qa hA rfl rfl rfl (qe rfl) ?_
     intro a hA
     refine qa (v := .string (xa xs)) hA rfl rfl rfl (qn (vs := [.string (xa xs), .slice ((if ca7 = 1 then so6 else so6.map (·.add (1 * 11)))) ((xs.drop 1).length) ((ca7 - 1)), .bool true]) rfl rfl) ?_
     intro a hA
     refine qa (v := .slice ((if ca7 = 1 then so6 else so6.map (·.add (1 * 11)))) ((xs.drop 1).length) ((ca7 - 1))) hA rfl rfl rfl (qn (vs := [.string (xa xs), .slice ((if ca7 = 1 then so6 else so6.map (·.add (1 * 11)))) ((xs.drop 1).length) ((ca7 - 1)), .bool true]) rfl rfl) ?_
     intro a hA
     refine qa (v := .bool true) hA rfl rfl rfl (qn (vs := [.string (xa xs), .slice ((if ca7 = 1 then so6 else so6.map (·.add (1 * 11)))) ((xs.drop 1).length) ((ca7 - 1)), .bool true]) rfl rfl) ?_
     intro a hA
     refine qa hA rfl rfl rfl (qb rfl) ?_
     intro a hA
     refine qa hA rfl rfl rfl (qb rfl) ?_
     intro a hA
     refine qa hA rfl rfl rfl (qb rfl) ?_
     intro a hA
     refine qf ?_
     refine hK13 _ _ ?_
     refine wp_seq_k (fun K17 hK17 => ?_)
     refine wp_region_lit ?_
     refine qa hA rfl rfl rfl (qe rfl) ?_
     intro a hA
     refine qf ?_
     refine hK17 _ _ ?_
     refine wp_cond_true (hA.ev rfl) ?_
     refine wp_seq_k (fun K18 hK18 => ?_)
     refine wp_region_lit ?_
     refine qa hA rfl rfl rfl (qe rfl) ?_
     intro a hA
     refine qa hA rfl rfl rfl (qe rfl) ?_
     intro a hA
     have hz20 := hM.bel.size
     refine qm hA rfl rfl rfl (qh rfl rfl (fun w => by kernel_rfl)) (joinedV_any (h0.trans (hM.bel.mono h0.size)) ((kk (hM.has 0 rfl)).1.drop ca7 1 (qga (hM.has 0 rfl))) (hIt.ok hb 1) (by have := hIt.le; rw [List.length_drop]; omega) ih) ?_
     rintro _ w21 ⟨fv9, rfl, hT9, hb19⟩
     replace hM := hM.call hb19
     refine ⟨_, rfl, ?_⟩
     intro a hA
     refine qa (v := fv9) hA rfl rfl rfl (qn (vs := [fv9, .bool ((jn (xa xs) ((xs.drop 1).map fun x : Dt => xh n x.tr)).isSome)]) rfl rfl) ?_
     intro a hA
     refine qa (v := .bool ((jn (xa xs) ((xs.drop 1).map fun x : Dt => xh n x.tr)).isSome)) hA rfl rfl rfl (qn (vs := [fv9, .bool ((jn (xa xs) ((xs.drop 1).map fun x : Dt => xh n x.tr)).isSome)]) rfl rfl) ?_
     intro a hA
     refine qa hA rfl rfl rfl (qb rfl) ?_
     intro a hA
     refine qa hA rfl rfl rfl (qb rfl) ?_
     intro a hA
     refine qf ?_
     refine hK18 _ _ ?_
     refine wp_ret ?_
     refine hret _ _ ?_
     refine ze (v := .tuple #[fv9, .bool ((jn (xa xs) ((xs.drop 1).map fun x : Dt => xh n x.tr)).isSome)]) hA rfl (.cons (ql rfl) (.cons (ql rfl) .nil)) rfl ?_
     have ha9 := hIt.as hb5
     have e9 := ref_word (n := n) ha9 hb14
     exact ⟨_, by rw [e9], fun p hp => (hT9 p (by rw [e9] at hp; exact hp)).sub (qaa hz20), hM.bel⟩
   · refine qm hA rfl rfl rfl (qh rfl rfl (fun w => by kernel_rfl)) (cut_no (kk (hM.has 0 rfl)).1 (fun x hx => Dt.keep (h0.trans (hM.bel.mono h0.size)) _ (hIt.rd x hx)) (by have := hIt.le; omega) hb14) ?_
     rintro _ w23 ⟨rfl, hb22⟩
     replace hM := hM.call hb22
     refine ⟨_, rfl, ?_⟩
     intro a hA
     refine qa hA rfl rfl rfl (qe rfl) ?_
     intro a hA
     refine qa (v := .string (⟨#[]⟩)) hA rfl rfl rfl (qn (vs := [.string (⟨#[]⟩), .slice none 0 0, .bool false]) rfl rfl) ?_
     intro a hA
     refine qa (v := .slice none 0 0) hA rfl rfl rfl (qn (vs := [.string (⟨#[]⟩), .slice none 0 0, .bool false]) rfl rfl) ?_
     intro a hA
     refine qa (v := .bool false) hA rfl rfl rfl (qn (vs := [.string (⟨#[]⟩), .slice none 0 0, .bool false]) rfl rfl) ?_
     intro a hA
     refine qa hA rfl rfl rfl (qb rfl) ?_
     intro a hA
     refine qa hA rfl rfl rfl (qb rfl) ?_
     intro a hA
     refine qa hA rfl rfl rfl (qb rfl) ?_
     intro a hA
     refine qf ?_
     refine hK13 _ _ ?_
     refine wp_seq_k (fun K24 hK24 => ?_)
     refine wp_region_lit ?_
     refine qa hA rfl rfl rfl (qe rfl) ?_
     intro a hA
     refine qf ?_
     refine hK24 _ _ ?_
     refine wp_cond_false (hA.ev rfl) ?_
     refine wp_skip ?_
     refine hK12 _ _ ?_
     refine wp_seq_k (fun K25 hK25 => ?_)
     refine wp_region_lit ?_
     refine qa hA rfl rfl rfl (qe rfl) ?_
     intro a hA
     have hz27 := hM.bel.size
     refine qm hA rfl rfl rfl (qh rfl rfl (fun w => by kernel_rfl)) (rowOf_any (h0.trans (hM.bel.mono h0.size)) (kk (hM.has 0 rfl)).1 (hIt.ok0 hb) (by have := hIt.le; omega) ihs) ?_
     rintro _ w28 ⟨fv9, rfl, hT9, hb26⟩
     replace hM := hM.call hb26
     refine ⟨_, rfl, ?_⟩
     intro a hA
     refine qa (v := fv9) hA rfl rfl rfl (qn (vs := [fv9, .bool (((xi (xs.map fun x : Dt => xr n x.tr)).map ui).isSome)]) rfl rfl) ?_
     intro a hA
     refine qa (v := .bool (((xi (xs.map fun x : Dt => xr n x.tr)).map ui).isSome)) hA rfl rfl rfl (qn (vs := [fv9, .bool (((xi (xs.map fun x : Dt => xr n x.tr)).map ui).isSome)]) rfl rfl) ?_
     intro a hA
     refine qa hA rfl rfl rfl (qb rfl) ?_
     intro a hA
     refine qa hA rfl rfl rfl (qb rfl) ?_
     intro a hA
     refine qf ?_
     refine hK25 _ _ ?_
     refine wp_ret ?_
     refine hret _ _ ?_
     refine ze (v := .tuple #[fv9, .bool (((xi (xs.map fun x : Dt => xr n x.tr)).map ui).isSome)]) hA rfl (.cons (ql rfl) (.cons (ql rfl) .nil)) rfl ?_
     have ha9 := hIt.as hb5
     have e9 := ref_row (n := n) ha9 hb14
     exact ⟨_, by rw [e9], fun p hp => (hT9 p (by rw [e9] at hp; exact hp)).sub (qaa hz27), hM.bel⟩
 · refine qm hA rfl rfl rfl (qh rfl rfl (fun w => by kernel_rfl)) ((hb5 ▸ qag (h0.trans (hM.bel.mono h0.size)) ht hs (by omega))) ?_
   rintro _ w32 ⟨so29, ca30, xs, rfl, hIt, hM31⟩
   replace hM : Mg w w32 (.row 31 11 (.slice so29 xs.length ca30) xs.length (cellsOf xs) :: .obj g2 (.cells (t.d.cells t.ts.length).toArray 31) :: []) := (hM.both hM31 (qr (by simp) (qp qw)) (qr (by simp) (qp qw)))
   refine ⟨_, rfl, ?_⟩
   intro a hA
   refine qa hA rfl rfl rfl (qe rfl) ?_
   intro a hA
   refine qa (v := .slice so29 xs.length ca30) hA rfl rfl rfl (qn (vs := [.slice so29 xs.length ca30, .bool false]) rfl rfl) ?_
   intro a hA
   refine qa (v := .bool false) hA rfl rfl rfl (qn (vs := [.slice so29 xs.length ca30, .bool false]) rfl rfl) ?_
   intro a hA
   refine qa hA rfl rfl rfl (qb rfl) ?_
   intro a hA
   refine qa hA rfl rfl rfl (qb rfl) ?_
   intro a hA
   refine qf ?_
   refine hK4 _ _ ?_
   refine wp_seq_k (fun K33 hK33 => ?_)
   refine wp_seq_k (fun K34 hK34 => ?_)
   refine wp_region_lit ?_
   refine qa hA rfl rfl rfl (qe rfl) ?_
   intro a hA
   refine qa (v := .bool true) hA rfl rfl rfl (qz rfl zg) ?_
   intro a hA
   refine qf ?_
   refine hK34 _ _ ?_
   refine wp_cond_true (hA.ev rfl) ?_
   refine wp_seq_k (fun K35 hK35 => ?_)
   refine wp_region_lit ?_
   refine qa hA rfl rfl rfl (qb rfl) ?_
   intro a hA
   refine qa hA rfl rfl rfl (qb rfl) ?_
   intro a hA
   refine qf ?_
   refine hK35 _ _ ?_
   refine wp_ret ?_
   refine hret _ _ ?_
   refine ze (v := .tuple #[.nilFunc, .bool false]) hA rfl (.cons (ql rfl) (.cons (ql rfl) .nil)) rfl ?_
   have e9 := ref_none (n := n) (kr hb5)
   exact ⟨_, by rw [e9]; rfl, fun p hp => (by rw [e9] at hp; cases hp), hM.bel⟩
theorem qjb : ∀ n : Nat, n ≤ 4000000 → Refs n
  | 0, _ => by intro h0 ht hs hb; exact absurd (Nat.le_trans (qhg _) hb) (Nat.not_succ_le_zero _)
  | n + 1, hn => by intro h0 ht hs hb b he; exact he ▸ ref_any h0 ht hs hb hn (qjb n (by omega)) (subs_all n (by omega))
open Classical in
noncomputable def un (n : Nat) (l : List Int) (t : Tr) : Bool × Int := if jv zl t = true then (match xh n t with | none => (false, 12) | some f => if l.any yp = true then (false, 1) else (f l, 0)) else (false, 2)
theorem ver_form {n : Nat} {l : List Int} {t : Tr} (h : jv zl t = false) : un n l t = (false, 2) := by unfold un; rw [if_neg (by rw [h]; decide)]
theorem ver_forms {n : Nat} {l : List Int} {t : Tr} (h : jv zl t = true) (hr : xh n t = none) : un n l t = (false, 12) := by unfold un; rw [if_pos h, hr]
theorem ver_arg {n : Nat} {l : List Int} {t : Tr} {f : List Int → Bool} (h : jv zl t = true) (hr : xh n t = some f) (hl : l.any yp = true) : un n l t = (false, 1) := by unfold un; rw [if_pos h, hr]; exact if_pos hl
theorem qee {n : Nat} {l : List Int} {t : Tr} {f : List Int → Bool} (h : jv zl t = true) (hr : xh n t = some f) (hl : l.any yp = false) : un n l t = (f l, 0) := by unfold un; rw [if_pos h, hr]; exact if_neg (by rw [hl]; decide)
theorem version_any {w : World} {n : Nat} {t : Dt} {l : List Int} {sv : Option Addr} {cv : Nat} (ht : t.rd w) (hT8 : Tabs8 w) (hb : t.tr.bulk ≤ n) (hn : n ≤ 4000000) (hv : Rc w sv (izC l)) (hll : l.length ≤ 2000000) : Calls Tryz.prog 4 #[.slice sv l.length cv, .agg (t.d.cells t.ts.length).toArray] w fun e w' => e = .returned (.tuple #[.bool (un n l t.tr).1, .int .i64 (un n l t.tr).2]) ∧ Below w.heap.size w w' := by
 have hM : Mg w w ([]) := Mg.start w
 refine zb (l := [(0, .slice sv l.length cv), (1, .agg (t.d.cells t.ts.length).toArray)]) Tryz.func4 rfl Tryz.ntmps4 rfl rfl ?_
 intro Q hret hnorm hP a hA
 refine wp_seq_k (fun K1 hK1 => ?_)
 refine wp_region_lit ?_
 refine jc (vs := (t.d.cells t.ts.length)) (t := 31) hA hM rfl rfl rfl (fun g => .pointer (some ⟨g, 0, none⟩)) (zm rfl rfl) (by decide) ?_
 intro g2 w3 hM a hA
 refine qa hA rfl rfl rfl (qb rfl) ?_
 intro a hA
 refine qa hA rfl rfl rfl (qb rfl) ?_
 intro a hA
 refine qf ?_
 refine hK1 _ _ ?_
 refine wp_seq_k (fun K4 hK4 => ?_)
 refine wp_seq_k (fun K5 hK5 => ?_)
 refine wp_region_lit ?_
 refine qa hA rfl rfl rfl (jf hM JcF_isS_31 rfl 0 rfl (cs := (t.d.cells t.ts.length)) rfl rfl) ?_
 intro a hA
 rcases Bool.eq_false_or_eq_true (jv zl t.tr) with hb6 | hb6
 · refine qm hA rfl rfl rfl (qh rfl rfl (fun w => by kernel_rfl)) ((hb6 ▸ sound_any (Dt.keep hM.bel _ ht) (hT8.below hM.bel))) ?_
   rintro _ w8 ⟨rfl, hb7⟩
   replace hM := hM.call hb7
   refine ⟨_, rfl, ?_⟩
   intro a hA
   refine qa (v := .bool false) hA rfl rfl rfl (qz rfl zg) ?_
   intro a hA
   refine qf ?_
   refine hK5 _ _ ?_
   refine wp_cond_false (hA.ev rfl) ?_
   refine wp_skip ?_
   refine hK4 _ _ ?_
   refine wp_seq_k (fun K9 hK9 => ?_)
   refine wp_region_lit ?_
   refine qa hA rfl rfl rfl (jf hM JcF_isS_31 rfl 0 rfl (cs := (t.d.cells t.ts.length)) rfl rfl) ?_
   intro a hA
   rcases Bool.eq_false_or_eq_true ((xh n t.tr).isSome) with hb10 | hb10
   · refine qm hA rfl rfl rfl (qh rfl rfl (fun w => by kernel_rfl)) (qjb n hn (hM.bel) ht (qmb hb6) hb hb10) ?_
     rintro _ w12 ⟨fv9, rfl, hT9, hb11⟩
     obtain ⟨p9, hp9⟩ := Option.isSome_iff_exists.1 hb10
     obtain ⟨f9, cs9, e9, hi9, hr9⟩ := hT9 p9 hp9
     clear hT9
     subst e9
     replace hM : Mg w w12 (.obj g2 (.cells (t.d.cells t.ts.length).toArray 31) :: (made w8 w12 ++ [])) := hM.freezeAt 1 (qr (by simp) (qp qw)) hb11
     refine ⟨_, rfl, ?_⟩
     intro a hA
     refine qa hA rfl rfl rfl (qe rfl) ?_
     intro a hA
     refine qa (v := .func (.func f9) #[] cs9.toArray) hA rfl rfl rfl (qn (vs := [.func (.func f9) #[] cs9.toArray, .bool true]) rfl rfl) ?_
     intro a hA
     refine qa (v := .bool true) hA rfl rfl rfl (qn (vs := [.func (.func f9) #[] cs9.toArray, .bool true]) rfl rfl) ?_
     intro a hA
     refine qa hA rfl rfl rfl (qb rfl) ?_
     intro a hA
     refine qa hA rfl rfl rfl (qb rfl) ?_
     intro a hA
     refine qf ?_
     refine hK9 _ _ ?_
     refine wp_seq_k (fun K13 hK13 => ?_)
     refine wp_block ?_
     refine wp_seq_k (fun K14 hK14 => ?_)
     refine wp_region_lit ?_
     refine qa hA rfl rfl rfl (qe rfl) ?_
     intro a hA
     refine qa (v := .bool false) hA rfl rfl rfl (qz rfl zg) ?_
     intro a hA
     refine qa hA rfl rfl rfl (qb rfl) ?_
     intro a hA
     refine qf ?_
     refine hK14 _ _ ?_
     refine wp_cond_false (hA.ev rfl) ?_
     refine wp_seq_k (fun K15 hK15 => ?_)
     refine wp_region_lit ?_
     refine qa hA rfl rfl rfl (qe rfl) ?_
     intro a hA
     rcases Bool.eq_false_or_eq_true (l.any yp) with hb16 | hb16
     · refine qm hA rfl rfl rfl (qh rfl rfl (fun w => by kernel_rfl)) (oddI_any (hv.below hM.bel) (by omega) hb16) ?_
       rintro _ w18 ⟨rfl, hb17⟩
       replace hM := hM.call hb17
       refine ⟨_, rfl, ?_⟩
       intro a hA
       refine qa hA rfl rfl rfl (qb rfl) ?_
       intro a hA
       refine qf ?_
       refine hK15 _ _ ?_
       refine wp_cond_true (hA.ev rfl) ?_
       refine wp_seq_k (fun K19 hK19 => ?_)
       refine wp_region_lit ?_
       refine qa hA rfl rfl rfl (qb rfl) ?_
       intro a hA
       refine qa hA rfl rfl rfl (qb rfl) ?_
       intro a hA
       refine qf ?_
       refine hK19 _ _ ?_
       refine wp_ret ?_
       refine hret _ _ ?_
       refine ze (v := .tuple #[.bool false, .int .i64 1]) hA rfl (.cons (ql rfl) (.cons (ql rfl) .nil)) rfl ?_
       exact ⟨by rw [ver_arg hb6 hp9 hb16], hM.bel⟩
     · refine qm hA rfl rfl rfl (qh rfl rfl (fun w => by kernel_rfl)) (oddI_any (hv.below hM.bel) (by omega) hb16) ?_
       rintro _ w21 ⟨rfl, hb20⟩
       replace hM := hM.call hb20
       refine ⟨_, rfl, ?_⟩
       intro a hA
       refine qa hA rfl rfl rfl (qb rfl) ?_
       intro a hA
       refine qf ?_
       refine hK15 _ _ ?_
       refine wp_cond_false (hA.ev rfl) ?_
       refine wp_skip ?_
       refine hK13 _ _ ?_
       refine wp_seq_k (fun K22 hK22 => ?_)
       refine wp_region_lit ?_
       refine qa hA rfl rfl rfl (qe rfl) ?_
       intro a hA
       refine qa hA rfl rfl rfl (qe rfl) ?_
       intro a hA
       refine qm hA rfl rfl rfl (xe rfl rfl hi9) (hr9 _ l _ hM.bel (hM.ob (fun c h => by simp only [List.mem_cons, List.mem_append] at h ⊢; simp [h])) ⟨_, _, rfl, hv.below hM.bel, hll⟩) ?_
       rintro _ w24 ⟨rfl, hb23⟩
       replace hM := hM.call hb23
       refine ⟨_, rfl, ?_⟩
       intro a hA
       refine qa hA rfl rfl rfl (qb rfl) ?_
       intro a hA
       refine qa hA rfl rfl rfl (qb rfl) ?_
       intro a hA
       refine qf ?_
       refine hK22 _ _ ?_
       refine wp_ret ?_
       refine hret _ _ ?_
       refine ze (v := .tuple #[.bool (p9 l), .int .i64 0]) hA rfl (.cons (ql rfl) (.cons (ql rfl) .nil)) rfl ?_
       exact ⟨by rw [qee hb6 hp9 hb16], hM.bel⟩
   · refine qm hA rfl rfl rfl (qh rfl rfl (fun w => by kernel_rfl)) (qjb n hn (hM.bel) ht (qmb hb6) hb hb10) ?_
     rintro _ w26 ⟨fv9, rfl, hT9, hb25⟩
     replace hM := hM.call hb25
     refine ⟨_, rfl, ?_⟩
     intro a hA
     refine qa hA rfl rfl rfl (qe rfl) ?_
     intro a hA
     refine qa (v := fv9) hA rfl rfl rfl (qn (vs := [fv9, .bool false]) rfl rfl) ?_
     intro a hA
     refine qa (v := .bool false) hA rfl rfl rfl (qn (vs := [fv9, .bool false]) rfl rfl) ?_
     intro a hA
     refine qa hA rfl rfl rfl (qb rfl) ?_
     intro a hA
     refine qa hA rfl rfl rfl (qb rfl) ?_
     intro a hA
     refine qf ?_
     refine hK9 _ _ ?_
     refine wp_seq_k (fun K27 hK27 => ?_)
     refine wp_block ?_
     refine wp_seq_k (fun K28 hK28 => ?_)
     refine wp_region_lit ?_
     refine qa hA rfl rfl rfl (qe rfl) ?_
     intro a hA
     refine qa (v := .bool true) hA rfl rfl rfl (qz rfl zg) ?_
     intro a hA
     refine qa hA rfl rfl rfl (qb rfl) ?_
     intro a hA
     refine qf ?_
     refine hK28 _ _ ?_
     refine wp_cond_true (hA.ev rfl) ?_
     refine wp_seq_k (fun K29 hK29 => ?_)
     refine wp_region_lit ?_
     refine qa hA rfl rfl rfl (qb rfl) ?_
     intro a hA
     refine qa hA rfl rfl rfl (qb rfl) ?_
     intro a hA
     refine qf ?_
     refine hK29 _ _ ?_
     refine wp_ret ?_
     refine hret _ _ ?_
     refine ze (v := .tuple #[.bool false, .int .i64 12]) hA rfl (.cons (ql rfl) (.cons (ql rfl) .nil)) rfl ?_
     exact ⟨by rw [ver_forms hb6 (kr hb10)], hM.bel⟩
 · refine qm hA rfl rfl rfl (qh rfl rfl (fun w => by kernel_rfl)) ((hb6 ▸ sound_any (Dt.keep hM.bel _ ht) (hT8.below hM.bel))) ?_
   rintro _ w31 ⟨rfl, hb30⟩
   replace hM := hM.call hb30
   refine ⟨_, rfl, ?_⟩
   intro a hA
   refine qa (v := .bool true) hA rfl rfl rfl (qz rfl zg) ?_
   intro a hA
   refine qf ?_
   refine hK5 _ _ ?_
   refine wp_cond_true (hA.ev rfl) ?_
   refine wp_seq_k (fun K32 hK32 => ?_)
   refine wp_region_lit ?_
   refine qa hA rfl rfl rfl (qb rfl) ?_
   intro a hA
   refine qa hA rfl rfl rfl (qb rfl) ?_
   intro a hA
   refine qf ?_
   refine hK32 _ _ ?_
   refine wp_ret ?_
   refine hret _ _ ?_
   refine ze (v := .tuple #[.bool false, .int .i64 2]) hA rfl (.cons (ql rfl) (.cons (ql rfl) .nil)) rfl ?_
   exact ⟨by rw [ver_form hb6], hM.bel⟩
end Go.Proofs.YtoopkbedjbnhhabGreatDoor.G
namespace Go.Proofs.YtoopkbedjbnhhabGreatDoor.G
open Go.RowKit
theorem deep_less : ∀ t : Tr, ∀ dp : Int, xw (dp + 1) t = true → xw dp t = true := by
  refine Tr.indT fun k n q s rl ts ih dp h => ?_
  rw [xw, Bool.and_eq_true, decide_eq_true_eq] at h ⊢
  refine ⟨by omega, ?_⟩
  have key : ∀ us : List Tr, (∀ t ∈ us, ∀ dp : Int, xw (dp + 1) t = true → xw dp t = true) → ∀ i, ya (dp + 1) (decide (k = 8)) i us = true → ya dp (decide (k = 8)) i us = true := by
    intro us
    induction us with
    | nil => intro _ i _; rfl
    | cons t us ih2 =>
      intro hu i hl
      rw [ya, Bool.and_eq_true] at hl ⊢
      refine ⟨?_, ih2 (fun x hx => hu x (List.mem_cons_of_mem _ hx)) _ hl.2⟩
      have h1 := hl.1
      by_cases hc : decide (k = 8) = true ∧ i = 1
      · rw [if_pos hc] at h1 ⊢; exact hu t List.mem_cons_self _ h1
      · rw [if_neg hc] at h1 ⊢; exact hu t List.mem_cons_self _ h1
  exact key ts ih 0 h.2
theorem deep_at : ∀ (xs : List Tr) (z : Tr) (dp : Int), dp ≤ 200 → xw dp (jm xs z) = (xs.all (xw (dp + 1)) && xw dp z)
  | [], z, dp, h => by simp [jm]
  | x :: xs, z, dp, h => by
    rw [jm, xw, ya, ya, ya, List.all_cons]
    have h1 : (if decide ((8 : Int) = 8) = true ∧ 0 = 1 then dp else dp + 1) = dp + 1 := if_neg (fun e => by cases e.2)
    have h2 : (if decide ((8 : Int) = 8) = true ∧ 0 + 1 = 1 then dp else dp + 1) = dp := if_pos ⟨rfl, rfl⟩
    rw [h1, h2, deep_at xs z dp h, decide_eq_true h]
    simp [Bool.and_assoc]
def yf (s : ByteArray) : Tr := .mk 6 0 Q6.zero s [] []
def xb (s : ByteArray) (xs : List Tr) : Tr := jm (yf s :: xs) nilT
theorem uk {s : ByteArray} {xs : List Tr} (hs : zl (yf s) = true) : jv zl (xb s xs) = true ↔ xs.all (xw 2) = true ∧ xn xs + xs.length + 3 ≤ 20000 ∧ xs.all (xj zl) = true := by
  unfold xb
  rw [sound_link]
  have h1 : xw 2 (yf s) = true := by unfold yf; rfl
  have h2 : xw 1 nilT = true := by rfl
  have h3 : kh (yf s) = 1 := by unfold yf; rfl
  have h4 : kh nilT = 1 := by rfl
  have h5 : xj zl (yf s) = true := by unfold yf at hs ⊢; rw [xj, hs]; rfl
  have h6 : xj zl nilT = true := by rfl
  rw [List.all_cons, List.all_cons, h1, h2, h5, h6, xn, h3, h4, List.length_cons]
  simp only [Bool.true_and, true_and, and_true]
  constructor
  · rintro ⟨a, b, c⟩; exact ⟨a, by omega, c⟩
  · rintro ⟨a, b, c⟩; exact ⟨a, by omega, c⟩
theorem deep_word {s : ByteArray} {xs : List Tr} {dp : Int} (h : dp + 1 ≤ 200) : xw dp (xb s xs) = xs.all (xw (dp + 1)) := by
  unfold xb
  have h1 : xw (dp + 1) (yf s) = true := by unfold yf; rw [xw, ya, decide_eq_true h]; rfl
  have h2 : xw dp nilT = true := by unfold nilT; rw [xw, ya, decide_eq_true (by omega)]; rfl
  rw [deep_at _ _ _ (by omega), List.all_cons, h1, h2, Bool.true_and, Bool.and_true]
theorem qjc {s : ByteArray} {xs : List Tr} : kh (xb s xs) = xn xs + xs.length + 3 := by
  unfold xb
  rw [qbj, xn]
  have h3 : kh (yf s) = 1 := by unfold yf; rfl
  have h4 : kh nilT = 1 := by rfl
  rw [h3, h4, List.length_cons]
  omega
theorem all_word {s : ByteArray} {xs : List Tr} (hs : zl (yf s) = true) : xj zl (xb s xs) = xs.all (xj zl) := by
  unfold xb
  have h5 : xj zl (yf s) = true := by unfold yf at hs ⊢; rw [xj, hs]; rfl
  have h6 : xj zl nilT = true := by rfl
  rw [qic, List.all_cons, h5, h6, Bool.true_and, Bool.and_true]
theorem sh_and : zl (yf xy) = true := by rfl
theorem sh_or : zl (yf wOr) = true := by rfl
theorem sh_not : zl (yf xq) = true := by rfl
theorem parts_sound {a b : Tr} (h : jv zl (xb xy [xb xq [a], xb xq [b]]) = true) : jv zl (xb xy [a, b]) = true ∧ jv zl (xb wOr [a, b]) = true ∧ jv zl (xb xq [xb wOr [a, b]]) = true := by
  rw [uk sh_and] at h
  obtain ⟨h1, h2, h3⟩ := h
  simp only [List.all_cons, List.all_nil, Bool.and_true, Bool.and_eq_true, deep_word (show (2 : Int) + 1 ≤ 200 by decide), all_word sh_not] at h1 h3
  simp only [xn, qjc, List.length_cons, List.length_nil] at h2
  have d1 := deep_less _ 2 h1.1
  have d2 := deep_less _ 2 h1.2
  refine ⟨(uk sh_and).2 ⟨?_, ?_, ?_⟩, (uk sh_or).2 ⟨?_, ?_, ?_⟩, (uk sh_not).2 ⟨?_, ?_, ?_⟩⟩
  · simp [d1, d2]
  · simp only [xn, List.length_cons, List.length_nil]; omega
  · simp [h3.1, h3.2]
  · simp [d1, d2]
  · simp only [xn, List.length_cons, List.length_nil]; omega
  · simp [h3.1, h3.2]
  · simp only [List.all_cons, List.all_nil, Bool.and_true, deep_word (show (2 : Int) + 1 ≤ 200 by decide), Bool.and_eq_true]; exact ⟨h1.1, h1.2⟩
  · simp only [xn, qjc, List.length_cons, List.length_nil]; omega
  · simp only [List.all_cons, List.all_nil, Bool.and_true, all_word sh_or, Bool.and_eq_true]; exact ⟨h3.1, h3.2⟩
theorem asList_word (s : ByteArray) (xs : List Tr) : xx (xb s xs) = some (yf s :: xs) := qfa _
theorem qef {n : Nat} {s : ByteArray} {xs : List Tr} : xh (n + 1) (xb s xs) = jn s (xs.map (xh n)) := by
  simp only [xh, asList_word]
  rw [if_pos (show (yf s).k = 6 from rfl)]
  rfl
theorem ref_and {n : Nat} {a b : Tr} {f g : List Int → Bool} (h1 : xh n a = some f) (h2 : xh n b = some g) : ∃ k, xh (n + 1) (xb xy [a, b]) = some k ∧ ∀ l, k l = (f l && g l) := by
  rw [qef]
  unfold jn
  simp only [List.map_cons, List.map_nil, h1, h2, xi, Option.map_some]
  rw [if_pos trivial]
  exact ⟨_, rfl, fun l => by simp⟩
theorem ref_or {n : Nat} {a b : Tr} {f g : List Int → Bool} (h1 : xh n a = some f) (h2 : xh n b = some g) : ∃ k, xh (n + 1) (xb wOr [a, b]) = some k ∧ ∀ l, k l = (f l || g l) := by
  rw [qef]
  unfold jn
  simp only [List.map_cons, List.map_nil, h1, h2, xi, Option.map_some]
  rw [if_neg (by decide), if_pos trivial]
  exact ⟨_, rfl, fun l => by simp⟩
theorem ref_not {n : Nat} {a : Tr} {f : List Int → Bool} (h1 : xh n a = some f) : ∃ k, xh (n + 1) (xb xq [a]) = some k ∧ ∀ l, k l = !(f l) := by
  rw [qef]
  unfold jn
  simp only [List.map_cons, List.map_nil, h1, xi, Option.map_some]
  rw [if_neg (by decide), if_neg (by decide), if_pos ⟨trivial, rfl⟩]
  exact ⟨_, rfl, fun l => rfl⟩
theorem ver_inv {n : Nat} {l : List Int} {t : Tr} {b : Bool} (h : un n l t = (b, 0)) : jv zl t = true ∧ l.any yp = false ∧ ∃ f, xh n t = some f ∧ f l = b := by
  cases hs : jv zl t with
  | false => rw [ver_form hs] at h; cases h
  | true =>
    cases hr : xh n t with
    | none => rw [ver_forms hs hr] at h; cases h
    | some f =>
      cases ho : l.any yp with
      | true => rw [ver_arg hs hr ho] at h; cases h
      | false => rw [qee hs hr ho] at h; cases h; exact ⟨rfl, rfl, f, rfl, rfl⟩
theorem logic_all {n : Nat} {l : List Int} {a b : Tr} {x y : Bool} (h1 : un n l a = (x, 0)) (h2 : un n l b = (y, 0)) (hs : jv zl (xb xy [xb xq [a], xb xq [b]]) = true) :
    un (n + 1) l (xb xy [a, b]) = (x && y, 0) ∧ un (n + 1) l (xb wOr [a, b]) = (x || y, 0) ∧ un (n + 2) l (xb xq [xb wOr [a, b]]) = (!(x || y), 0) ∧ un (n + 2) l (xb xy [xb xq [a], xb xq [b]]) = (!(x || y), 0) := by
  obtain ⟨_, ho, f, hf, rfl⟩ := ver_inv h1
  obtain ⟨_, _, g, hg, rfl⟩ := ver_inv h2
  obtain ⟨s1, s2, s3⟩ := parts_sound hs
  obtain ⟨k1, e1, m1⟩ := ref_and hf hg
  obtain ⟨k2, e2, m2⟩ := ref_or hf hg
  obtain ⟨k3, e3, m3⟩ := ref_not e2
  obtain ⟨k4, e4, m4⟩ := ref_not hf
  obtain ⟨k5, e5, m5⟩ := ref_not hg
  obtain ⟨k6, e6, m6⟩ := ref_and e4 e5
  rw [qee s1 e1 ho, qee s2 e2 ho, qee s3 e3 ho, qee hs e6 ho, m1, m2, m3, m6, m4, m5, m2]
  refine ⟨rfl, rfl, rfl, ?_⟩
  cases f l <;> cases g l <;> rfl
theorem at_two {p q : Nat → Prop} : ∀ t : Dt, t.at_ p → t.at_ q → t.at_ (fun b => p b ∧ q b) :=
  Dt.indT fun d ts ih h k => by
    rw [Dt.at_iff] at h k ⊢
    exact ⟨⟨fun n b o e => ⟨h.1.i1 n b o e, k.1.i1 n b o e⟩, fun n b o e => ⟨h.1.i2 n b o e, k.1.i2 n b o e⟩, fun n b o e => ⟨h.1.i3 n b o e, k.1.i3 n b o e⟩, fun n b o e => ⟨h.1.i4 n b o e, k.1.i4 n b o e⟩, fun n b o e => ⟨h.1.i5 n b o e, k.1.i5 n b o e⟩⟩, fun n b o e => ⟨h.2.1 n b o e, k.2.1 n b o e⟩, fun t ht => ih t ht (h.2.2 t ht) (k.2.2 t ht)⟩
def LB (w0 : World) (T : List Ck) (b : Nat) : Prop := b < w0.heap.size ∨ ∃ o, Ck.obj b o ∈ T
def LV (w0 : World) (T : List Ck) (t : Dt) : Prop := t.at_ (LB w0 T) ∧ ∀ w1, Below w0.heap.size w0 w1 → Ob T w1 → t.rd w1
theorem lv_in {w0 : World} {t : Dt} (T : List Ck) (h : t.rd w0) : LV w0 T t := ⟨Dt.at_mono (fun b hb => .inl hb) _ (Dt.at_lt _ h), fun w1 hb _ => Dt.keep hb _ h⟩
theorem LV.sub {w0 : World} {T T' : List Ck} {t : Dt} (h : LV w0 T t) (hs : T ⊆ T') : LV w0 T' t := ⟨Dt.at_mono (fun b hb => hb.imp id (fun ⟨o, ho⟩ => ⟨o, hs ho⟩)) _ h.1, fun w1 hb hO => h.2 w1 hb (hO.sub hs)⟩
theorem lv_new {w0 wk w' : World} {T : List Ck} {z : Dt} (hb : Below w0.heap.size w0 w') (hk : w0.heap.size ≤ wk.heap.size) (hO : Ob T w') (hr : z.rd w') (ha : z.at_ (fun b => LB w0 T b ∨ wk.heap.size ≤ b)) : LV w0 (made wk w' ++ T) z := by
  have key : ∀ b, (b < w'.heap.size ∧ (LB w0 T b ∨ wk.heap.size ≤ b)) → LB w0 (made wk w' ++ T) b := by
    rintro b ⟨h1, (h | ⟨o, h⟩) | h⟩
    · exact .inl h
    · exact .inr ⟨o, List.mem_append_right _ h⟩
    · exact .inr ⟨_, List.mem_append_left _ (uy h (by omega) (Array.getElem?_eq_getElem h1))⟩
  have ha2 : z.at_ (LB w0 (made wk w' ++ T)) := Dt.at_mono key _ (at_two z (Dt.at_lt _ hr) ha)
  refine ⟨ha2, fun w1 hb1 hO1 => Dt.seen (p := LB w0 (made wk w' ++ T)) (fun b i v hp hc => ?_) z hr ha2⟩
  have hO' : Ob (made wk w' ++ T) w' := fun b o hm => by
    rcases List.mem_append.1 hm with h | h
    · obtain ⟨b', o', e, _, h3⟩ := kw h; cases e; exact h3
    · exact hO b o h
  rcases hp with h | ⟨o, h⟩
  · have e1 := hb.block b h
    have e2 := hb1.block b h
    unfold World.cell? at hc ⊢
    simp only at hc ⊢
    rw [e2, ← e1]; exact hc
  · have e1 := hO' b o h
    have e2 := hO1 b o h
    unfold World.cell? at hc ⊢
    simp only at hc ⊢
    rw [e2, ← e1]; exact hc
end Go.Proofs.YtoopkbedjbnhhabGreatDoor.G
namespace Go.Proofs.YtoopkbedjbnhhabGreatDoor.G
open Go.RowKit Go.MapKept
open Go.ChangeMaps (setBlock)

structure Em where
  k : ByteArray
  v : Value
  b : Nat
def Em.e (x : Em) : MapEntry := ⟨.string x.k, x.v, x.b⟩
def qde (es : List Em) (ck : Nat) : Obj := .map (es.map Em.e).toArray ck
theorem qjd (es : List Em) (ck : Nat) : qba (qde es ck) := fun c fz e => by cases e
def atS (x : ByteArray) : List Em → Option Em
  | [] => none
  | e :: es => if e.k = x then some e else atS x es
def placeS (x : ByteArray) : List Em → Nat
  | [] => 0
  | e :: es => if e.k = x then 0 else placeS x es + 1
theorem findS (x : ByteArray) : ∀ (es : List Em) (i : Nat), Instr.findNow .string (.string x) (es.map Em.e) i = some ((atS x es).map fun e => (i + placeS x es, e.v))
  | [], _ => rfl
  | e :: es, i => by
    simp only [List.map_cons, Instr.findNow, Em.e, Instr.sameNow, atS, placeS]
    by_cases h : e.k = x
    · rw [if_pos h, if_pos h, h, show (x == x) = true from (bytes_beq _ _).2 rfl]; simp
    · rw [if_neg h, if_neg h]
      have : (x == e.k) = false := by
        rw [Bool.eq_false_iff]
        intro k
        exact h ((bytes_beq _ _).1 k).symm
      rw [this]
      have ih := findS x es (i + 1)
      simp only [Em.e] at ih ⊢
      rw [ih]
      cases atS x es <;> simp <;> omega
section
variable {P : Program} {w0 w : World} {L : List Ck} {l : List (Nat × Value)} {dst : Option Tmp} {ty : TypeId} {pos : String} {after : Array Edge} {guard : Option (Nat × Bool)} {v : Value} {t kt et : TypeId}
theorem runS_find (hk : P.underlying kt = some .string) (x : ByteArray) (es : List Em) : (Instr.findKey kt (.string x) (es.map Em.e)).run P w = .ok ((atS x es).map fun e => (placeS x es, e.v)) w := by
  have := MapKept.run_findKey (w := w) hk (findS x es 0)
  simpa using this
theorem Mg.setObjS (h : Mg w0 w L) (k : Nat) {g : Nat} {o o' : Obj} (hk : L[k]? = some (.obj g o)) (hq : qba o') : Mg w0 (setBlock w g o') (L.set k (.obj g o')) := by
  have ho := h.obj k hk
  refine h.turn k hk (by simp) ⟨rfl, rfl, rfl, by simp [setBlock], fun j hj hne => (heap_set ho).2 j (fun e => hne (by rw [e]; rfl))⟩ ⟨(h.has k hk).1, (heap_set ho).1⟩ (fun c _ ha => ?_)
  cases c with
  | obj g' o' => exact ha
  | row e' sz' v' n' xs' => exact ha
  | bld b' bs' => exact ⟨ha.1, hq⟩
theorem does_lenM {x : Operand} {g ck : Nat} {es : List Em} (hh : w.heap[g]? = some (qde es ck)) (ht : P.underlying t = some (.map kt et)) (hx : ev l x = some (.map (some g))) : Does P l ⟨dst, .call ⟨.builtin .len, #[x], #[t]⟩, ty, pos, after, guard⟩ w (.int .i64 ((es.length : Nat) : Int)) w := fun ρ h => by
  have h1 := MapKept.run_getObj_map (P := P) hh
  simp [execOp, resolve, invoke, builtin, h x _ hx, Builtin.len_, run_underlying ht, h1, goInt]
theorem sets_newS (hM : Mg w0 w L) (ht : P.underlying t = some (.map kt et)) (hkt : P.underlying kt = some .string) {x y u : Operand} {g ck : Nat} {z : ByteArray} {es : List Em} (hx : ev l x = some (.map (some g))) (hy : ev l y = some (.string z)) (hu : ev l u = some v) (k : Nat) (hk : L[k]? = some (.obj g (qde es ck))) (he : atS z es = none) :
    Sets P l ⟨dst, .mapUpdate t x y u, ty, pos, after, guard⟩ w (setBlock w g (qde (es ++ [⟨z, v, ck⟩]) (ck + 1))) := fun ρ h => by
  have ho := hM.obj k hk
  have h1 := MapKept.run_getObj_map (P := P) ho
  have h2 : ∀ b : Bool, (Instr.checkKey b 10000 kt (.string z)).run P w = .ok () w := fun b => MapKept.run_checkKey hkt (by simp [IsKey]) b 9999
  have h3 := runS_find (P := P) (w := w) hkt z es
  rw [he] at h3
  have h4 := fun o' => MapKept.run_setObj_map (P := P) o' ho
  have e1 : (es.map Em.e).toArray.push ⟨.string z, v, ck⟩ = ((es ++ [(⟨z, v, ck⟩ : Em)]).map Em.e).toArray := by simp [Em.e]
  simp only [execOp, h x _ hx, h y _ hy, h u _ hu, Instr.mapUpdate, Sem.run_bind, run_underlying ht, Result.andThen_ok, h1, h2, h3, Option.map_none, Sem.run_pure, h4, e1]
  rfl
section
variable {ops : List Oper} {Q : Exit → Act → World → Prop} {a : Act} {n : Nat} {o : Oper} {rest : List Oper} {d : Nat}
theorem qla : Does P l ⟨dst, .makeMap t none, ty, pos, after, guard⟩ w (.map (some w.heap.size)) (w.alloc (qde [] 0)) := fun ρ h => by
  simp [execOp, Instr.makeMap, qde]
theorem s_makeMapS (hA : Sl a n l) (hM : Mg w0 w L) (ho : o = ⟨dst, .makeMap t none, ty, pos, after, guard⟩) (hg : zy l ops o = true) (hdst : o.dst = some d) (hd : Nat.blt d n = true)
    (hk : ∀ g w', Mg w0 w' (.obj g (qde [] 0) :: L) → ∀ a', Sl a' n ((d, .map (some g)) :: l) → wpList P ops.toArray Q rest a' w') : wpList P ops.toArray Q (o :: rest) a w := by
  subst ho
  exact qa hA hg hdst hd qla (hk _ _ (hM.addObj _ (qjd _ _)))
theorem s_setObjS (hA : Sl a n l) (hM : Mg w0 w L) (hg : zy l ops o = true) (hdst : o.dst = none) {g : Nat} {o1 o2 : Obj} (he : Sets P l o w (setBlock w g o2)) (k : Nat) (hk0 : L[k]? = some (.obj g o1)) (hq : qba o2) {L' : List Ck} (hL : L.set k (.obj g o2) = L')
    (hk : ∀ w', Mg w0 w' L' → wpList P ops.toArray Q rest a w') : wpList P ops.toArray Q (o :: rest) a w :=
  qcc hA hg hdst he (hk _ (hL ▸ hM.setObjS k hk0 hq))
end
end
end Go.Proofs.YtoopkbedjbnhhabGreatDoor.G
namespace Go.Proofs
open Go.Shelf
def Tryz.laysM316_ren : Go.Shelf.Ren := ⟨fun | 316 => 63 | n => n, fun | 9 => 9 | 3 => 3 | 4 => 4 | 37 => 28 | 0 => 0 | 127 => 121 | 5 => 5 | n => n, fun | n => n⟩
theorem Tryz.laysM316 : Go.Proofs.LaysM.n316 Tryz.prog Tryz.laysM316_ren := {
  mixed := by kernel_rfl
  f316 := Tryz.func63.trans (congrArg some (by kernel_rfl))
  t0 := Tryz.underlying0
  a0 := Tryz.isAgg0
  z0 := Tryz.sizeOf0
  v0 := Tryz.zeroValue0
  t3 := Tryz.underlying3
  a3 := Tryz.isAgg3
  z3 := Tryz.sizeOf3
  v3 := Tryz.zeroValue3
  t4 := Tryz.underlying4
  a4 := Tryz.isAgg4
  z4 := Tryz.sizeOf4
  v4 := Tryz.zeroValue4
  t9 := Tryz.underlying9
  a9 := Tryz.isAgg9
  z9 := Tryz.sizeOf9
  v9 := Tryz.zeroValue9
  t37 := Tryz.underlying28
  a37 := Tryz.isAgg28
  z37 := Tryz.sizeOf28
  v37 := Tryz.zeroValue28
  t127 := Tryz.underlying121
  a127 := Tryz.isAgg121
  z127 := Tryz.sizeOf121
  v127 := Tryz.zeroValue121
  t5 := Tryz.underlying5
  a5 := Tryz.isAgg5
  z5 := Tryz.sizeOf5
  v5 := Tryz.zeroValue5
  i0 := by kernel_rfl
  i3 := by kernel_rfl
  i4 := by kernel_rfl
  i5 := by kernel_rfl
  i9 := by kernel_rfl
  i37 := by kernel_rfl
  i127 := by kernel_rfl }
open Go.RowKit in
theorem Tryz.stringslite_Clone (s : ByteArray) (w : World) (hlim : s.size ≤ 281474976710656) :
    Calls Tryz.prog 63 #[.string s] w fun e w' => e = .returned (.string s) ∧ Below w.heap.size w w' := Any.stringslite_Clone Tryz.laysM316 s w hlim
end Go.Proofs
namespace Go.Proofs.YtoopkbedjbnhhabGreatDoor.G
open Go.RowKit
set_option maxRecDepth 100000
theorem JcG_is1_3 : Is1 Tryz.prog 3 := ⟨⟨_, Tryz.underlying3, rfl⟩, by kernel_rfl⟩
theorem JcG_is1_46 : Is1 Tryz.prog 46 := ⟨⟨_, Tryz.underlying46, rfl⟩, by kernel_rfl⟩
theorem JcG_is1_49 : Is1 Tryz.prog 49 := ⟨⟨_, Tryz.underlying49, rfl⟩, by kernel_rfl⟩
theorem JcG_is1_50 : Is1 Tryz.prog 50 := ⟨⟨_, Tryz.underlying50, rfl⟩, by kernel_rfl⟩
theorem JcG_is1_9 : Is1 Tryz.prog 9 := ⟨⟨_, Tryz.underlying9, rfl⟩, by kernel_rfl⟩
theorem JcG_fld_52_0 : FieldAt Tryz.prog 52 0 0 := ⟨_, _, Tryz.underlying52, rfl, rfl, by kernel_rfl⟩
theorem JcG_fld_52_3 : FieldAt Tryz.prog 52 3 13 := ⟨_, _, Tryz.underlying52, rfl, rfl, by kernel_rfl⟩
theorem JcG_fld_52_4 : FieldAt Tryz.prog 52 4 14 := ⟨_, _, Tryz.underlying52, rfl, rfl, by kernel_rfl⟩
theorem JcG_fld_54_0 : FieldAt Tryz.prog 54 0 0 := ⟨_, _, Tryz.underlying54, rfl, rfl, by kernel_rfl⟩
theorem JcG_fld_54_1 : FieldAt Tryz.prog 54 1 1 := ⟨_, _, Tryz.underlying54, rfl, rfl, by kernel_rfl⟩
theorem JcG_fld_67_0 : FieldAt Tryz.prog 67 0 0 := ⟨_, _, Tryz.underlying67, rfl, rfl, by kernel_rfl⟩
theorem JcG_isS_52 : IsS Tryz.prog 52 15 := ⟨⟨_, Tryz.underlying52⟩, by kernel_rfl⟩
theorem JcG_isS_54 : IsS Tryz.prog 54 2 := ⟨⟨_, Tryz.underlying54⟩, by kernel_rfl⟩
theorem JcG_isS_67 : IsS Tryz.prog 67 2 := ⟨⟨_, Tryz.underlying67⟩, by kernel_rfl⟩
def ja (k : Int) (ofs nms : Value) : List Value := [.int .i64 k, .slice none 0 0, .int .i64 0, .int .i64 0, .bool false, .slice none 0 0, .slice none 0 0, .bool false, .slice none 0 0, .slice none 0 0, .string ⟨#[]⟩, .slice none 0 0, .slice none 0 0, ofs, nms]
theorem qfd {α : Type} : ∀ (L : List α) (k : Nat) (c : α), L[k]? = some c → L.Perm (c :: L.eraseIdx k)
  | [], _, _, h => by simp at h
  | a :: t, 0, c, h => by cases h; exact .refl _
  | a :: t, k + 1, c, h => ((qfd t k c (by simpa using h)).cons a).trans (.swap c a _)
theorem Mg.bringJ {w0 w : World} {L L' : List Ck} (h : Mg w0 w L) (k : Nat) {c : Ck} (hk : L[k]? = some c) (hL : c :: L.eraseIdx k = L') : Mg w0 w L' := by
  subst hL
  exact h.perm (qfd L k c hk)
theorem here_rc {w : World} {so : Option Addr} {cs : List Value} (h : Rc w so cs) (hne : cs ≠ []) : ∃ b o, so = some ⟨b, o, none⟩ ∧ Here w b o cs := by
  obtain ⟨b, o, e, h2⟩ := h hne
  refine ⟨b, o, e, ?_, fun j v hj => h2 j v hj⟩
  cases cs with
  | nil => exact absurd rfl hne
  | cons c l => exact vl (h2 0 c rfl)
theorem levels1_any {w : World} {sf sn : Option Addr} {cf cn : Nat} (hF : Rc w sf (ja 0 (.slice none 0 0) (.slice none 0 0))) : Calls Tryz.prog 22 #[.agg (ja 3 (.slice sf 1 cf) (.slice sn 1 cn)).toArray] w fun e w' => ∃ g' ca', e = .returned (.tuple #[.slice (some ⟨g', 0, none⟩) 1 ca', .agg (ja 0 (.slice none 0 0) (.slice none 0 0)).toArray, .bool true]) ∧ Mg w w' [.row 52 15 (.slice (some ⟨g', 0, none⟩) 1 ca') 1 (ja 3 (.slice sf 1 cf) (.slice sn 1 cn))] := by
 obtain ⟨bf, of, hsf, hHf⟩ := here_rc hF (by unfold ja; simp)
 have hM : Mg w w ([]) := Mg.start w
 refine zb (l := [(0, .agg (ja 3 (.slice sf 1 cf) (.slice sn 1 cn)).toArray)]) Tryz.func22 rfl Tryz.ntmps22 rfl rfl ?_
 intro Q hret hnorm hP a hA
 refine wp_seq_k (fun K1 hK1 => ?_)
 refine wp_region_lit ?_
 refine jc (vs := (ja 3 (.slice sf 1 cf) (.slice sn 1 cn))) (t := 52) hA hM rfl rfl rfl (fun g => .pointer (some ⟨g, 0, none⟩)) (zm rfl rfl) (by decide) ?_
 intro g2 w3 hM a hA
 refine qa hA rfl rfl rfl (qb rfl) ?_
 intro a hA
 refine jc (vs := (ja 0 (.slice none 0 0) (.slice none 0 0))) (t := 52) hA hM rfl rfl rfl (fun g => .pointer (some ⟨g, 0, none⟩)) (zd (z := .agg (ja 0 (.slice none 0 0) (.slice none 0 0)).toArray) (by kernel_rfl) rfl) (by decide) ?_
 intro g4 w5 hM a hA
 refine qa hA rfl rfl rfl (qb rfl) ?_
 intro a hA
 refine qf ?_
 refine hK1 _ _ ?_
 refine wp_seq_k (fun K6 hK6 => ?_)
 refine wp_block ?_
 refine wp_loop_rounds 3 ?_
 refine jg ?_
 intro K7 hK7
 refine wp_seq_k (fun K8 hK8 => ?_)
 refine wp_seq_k (fun K9 hK9 => ?_)
 refine wp_region_lit ?_
 refine qa (v := .pointer (some ⟨g2, 0, none⟩)) hA rfl rfl rfl (qk JcG_fld_52_0 rfl rfl) ?_
 intro a hA
 refine qa hA rfl rfl rfl (zk hM JcG_is1_3 rfl 1 rfl rfl) ?_
 intro a hA
 refine qa (v := .bool true) hA rfl rfl rfl (qg rfl rfl (fun w => by kernel_rfl)) ?_
 intro a hA
 refine qa hA rfl rfl rfl (qe rfl) ?_
 intro a hA
 refine qa (v := .pointer (some ⟨g2, 13, none⟩)) hA rfl rfl rfl (qk JcG_fld_52_3 rfl rfl) ?_
 intro a hA
 refine qa hA rfl rfl rfl (zk hM JcG_is1_50 rfl 1 rfl rfl) ?_
 intro a hA
 refine qa (v := .int .i64 1) hA rfl rfl rfl (zj Tryz.underlying50 rfl) ?_
 intro a hA
 refine qa (v := .bool true) hA rfl rfl rfl (qg rfl rfl (fun w => by kernel_rfl)) ?_
 intro a hA
 refine qa (v := .bool true) hA rfl rfl rfl (qi rfl rfl rfl rfl) ?_
 intro a hA
 refine qa hA rfl rfl rfl (qe rfl) ?_
 intro a hA
 refine qa hA rfl rfl rfl (qe rfl) ?_
 intro a hA
 refine qa (v := .int .i64 0) hA rfl rfl rfl (zj Tryz.underlying50 rfl) ?_
 intro a hA
 refine qa (v := .bool true) hA rfl rfl rfl (qg rfl rfl (fun w => by kernel_rfl)) ?_
 intro a hA
 refine qa (v := .bool true) hA rfl rfl rfl (qi rfl rfl rfl rfl) ?_
 intro a hA
 refine qf ?_
 refine hK9 _ _ ?_
 refine wp_cond_true (hA.ev rfl) ?_
 refine wp_skip ?_
 refine hK8 _ _ ?_
 refine wp_block ?_
 refine wp_seq_k (fun K10 hK10 => ?_)
 refine wp_region_lit ?_
 refine qa hA rfl rfl rfl (qe rfl) ?_
 intro a hA
 refine qa hA rfl rfl rfl (jf hM JcG_isS_52 rfl 1 rfl (cs := (ja 3 (.slice sf 1 cf) (.slice sn 1 cn))) rfl rfl) ?_
 intro a hA
 refine vt (e := 52) (sz := 15) (m := 1) (vs := (ja 3 (.slice sf 1 cf) (.slice sn 1 cn))) hA hM rfl rfl rfl (qx rfl (by kernel_rfl)) rfl rfl (.inl (by decide)) ?_
 intro g11 w12 hM a hA
 replace hM := hM.nilRow (qr (by simp) (qr (by simp) (qr (by simp) (qp qw)))) 52 15
 refine vp (e := 52) (sz := 15) (k := 0) (q := 0) (m := 1) (xs := []) (news := (ja 3 (.slice sf 1 cf) (.slice sn 1 cn))) (L' := fun v13 => (.row 52 15 (v13) (0 + 1) ([] ++ (ja 3 (.slice sf 1 cf) (.slice sn 1 cn))) :: .row 52 15 (.slice (some ⟨g11, 0, none⟩) 1 1) 1 ((ja 3 (.slice sf 1 cf) (.slice sn 1 cn))) :: .obj g4 (.cells (ja 0 (.slice none 0 0) (.slice none 0 0)).toArray 52) :: .obj g2 (.cells (ja 3 (.slice sf 1 cf) (.slice sn 1 cn)).toArray 52) :: [])) hA rfl rfl rfl (qbh (z := .agg (ja 0 (.slice none 0 0) (.slice none 0 0)).toArray) (sz := 15) (by_ := 272) Tryz.underlying50 (by kernel_rfl) rfl rfl rfl hM 0 rfl rfl rfl rfl (kl (hM.has 1 rfl)) (by intro u hu; simp only [ja, List.mem_cons, List.not_mem_nil, or_false] at hu; rcases hu with rfl | rfl | rfl | rfl | rfl | rfl | rfl | rfl | rfl | rfl | rfl | rfl | rfl | rfl | rfl <;> rfl) (by decide)) (fun _ => rfl) ?_
 intro v13 w14 hM a hA
 obtain ⟨g15, ca16, rfl⟩ := row_open (hM.has 0 rfl) (by decide)
 replace hM : Mg w w14 (.row 52 15 (.slice (some ⟨g15, 0, none⟩) 1 ca16) 1 ((ja 3 (.slice sf 1 cf) (.slice sn 1 cn))) :: .row 52 15 (.slice (some ⟨g11, 0, none⟩) 1 1) 1 ((ja 3 (.slice sf 1 cf) (.slice sn 1 cn))) :: .obj g4 (.cells (ja 0 (.slice none 0 0) (.slice none 0 0)).toArray 52) :: .obj g2 (.cells (ja 3 (.slice sf 1 cf) (.slice sn 1 cn)).toArray 52) :: []) := hM
 refine qa hA rfl rfl rfl (qb rfl) ?_
 intro a hA
 refine qf ?_
 refine hK10 _ _ ?_
 refine wp_region_lit ?_
 refine qa (v := .pointer (some ⟨g2, 13, none⟩)) hA rfl rfl rfl (qk JcG_fld_52_3 rfl rfl) ?_
 intro a hA
 refine qa hA rfl rfl rfl (zk hM JcG_is1_50 rfl 3 rfl rfl) ?_
 intro a hA
 refine qa (v := .pointer (some ⟨bf, of + 0 * 15, none⟩)) hA rfl rfl rfl (jd (k := 0) Tryz.underlying50 (by kernel_rfl) rfl rfl rfl hsf (by omega)) ?_
 intro a hA
 refine qa hA rfl rfl rfl (vh hM hHf JcG_isS_52 rfl rfl) ?_
 intro a hA
 refine zq (us := (ja 0 (.slice none 0 0) (.slice none 0 0))) (L' := (.row 52 15 (.slice (some ⟨g15, 0, none⟩) 1 ca16) 1 ((ja 3 (.slice sf 1 cf) (.slice sn 1 cn))) :: .row 52 15 (.slice (some ⟨g11, 0, none⟩) 1 1) 1 ((ja 3 (.slice sf 1 cf) (.slice sn 1 cn))) :: .obj g4 (.cells (ja 0 (.slice none 0 0) (.slice none 0 0)).toArray 52) :: .obj g2 (.cells (ja 0 (.slice none 0 0) (.slice none 0 0)).toArray 52) :: [])) hA hM rfl rfl (zh rfl rfl rfl (by kernel_rfl) hM 3 rfl rfl rfl) 3 rfl rfl rfl ?_
 intro w17 hM
 refine qf ?_
 refine hK7 _ _ ?_
 refine jg ?_
 intro K18 hK18
 refine wp_seq_k (fun K19 hK19 => ?_)
 refine wp_seq_k (fun K20 hK20 => ?_)
 refine wp_region_lit ?_
 refine qa (v := .pointer (some ⟨g2, 0, none⟩)) hA rfl rfl rfl (qk JcG_fld_52_0 rfl rfl) ?_
 intro a hA
 refine qa hA rfl rfl rfl (zk hM JcG_is1_3 rfl 3 rfl rfl) ?_
 intro a hA
 refine qa (v := .bool false) hA rfl rfl rfl (qg rfl rfl (fun w => by kernel_rfl)) ?_
 intro a hA
 refine qa hA rfl rfl rfl (qe rfl) ?_
 intro a hA
 refine qj hA rfl rfl rfl ?_
 intro a hA
 refine qj hA rfl rfl rfl ?_
 intro a hA
 refine qj hA rfl rfl rfl ?_
 intro a hA
 refine qj hA rfl rfl rfl ?_
 intro a hA
 refine qa (v := .bool false) hA rfl rfl rfl (qi rfl rfl rfl rfl) ?_
 intro a hA
 refine qa hA rfl rfl rfl (qe rfl) ?_
 intro a hA
 refine qj hA rfl rfl rfl ?_
 intro a hA
 refine qj hA rfl rfl rfl ?_
 intro a hA
 refine qj hA rfl rfl rfl ?_
 intro a hA
 refine qa (v := .bool false) hA rfl rfl rfl (qi rfl rfl rfl rfl) ?_
 intro a hA
 refine qf ?_
 refine hK20 _ _ ?_
 refine wp_cond_false (hA.ev rfl) ?_
 refine wp_exit ?_
 refine hK6 _ _ ?_
 refine wp_seq_k (fun K21 hK21 => ?_)
 refine vd (S := fun w1 => Mg w w1 (.obj g2 (.cells (ja 0 (.slice none 0 0) (.slice none 0 0)).toArray 52) :: [])) (by kernel_rfl) ?_
 replace hM := hM.drew
 refine zf hA 0 rfl rfl rfl rfl hP (hM.sub (cN (cN (cN (cC (List.nil_sublist _)))))) (fun w1 hM => qe rfl) ?_
 intro a hA
 refine zf hA 1 rfl rfl rfl rfl hP (hM.sub (cN (cN (cN (cC (List.nil_sublist _)))))) (fun w1 hM => jf hM JcG_isS_52 rfl 0 rfl (cs := (ja 0 (.slice none 0 0) (.slice none 0 0))) rfl rfl) ?_
 intro a hA
 refine zf (v := .pointer (some ⟨g2, 0, none⟩)) hA 2 rfl rfl rfl rfl hP (hM.sub (cN (cN (cN (cC (List.nil_sublist _)))))) (fun w1 hM => qk JcG_fld_52_0 rfl rfl) ?_
 intro a hA
 refine zf hA 3 rfl rfl rfl rfl hP (hM.sub (cN (cN (cN (cC (List.nil_sublist _)))))) (fun w1 hM => zk hM JcG_is1_3 rfl 0 rfl rfl) ?_
 intro a hA
 refine zf (v := .bool true) hA 4 rfl rfl rfl rfl hP (hM.sub (cN (cN (cN (cC (List.nil_sublist _)))))) (fun w1 hM => qg rfl rfl (fun w => by kernel_rfl)) ?_
 intro a hA
 refine zf hA 5 rfl rfl rfl rfl hP (hM.sub (cN (cN (cN (cC (List.nil_sublist _)))))) (fun w1 hM => qe rfl) ?_
 intro a hA
 refine zf (v := .pointer (some ⟨g2, 13, none⟩)) hA 6 rfl rfl rfl rfl hP (hM.sub (cN (cN (cN (cC (List.nil_sublist _)))))) (fun w1 hM => qk JcG_fld_52_3 rfl rfl) ?_
 intro a hA
 refine zf hA 7 rfl rfl rfl rfl hP (hM.sub (cN (cN (cN (cC (List.nil_sublist _)))))) (fun w1 hM => zk hM JcG_is1_50 rfl 0 rfl rfl) ?_
 intro a hA
 refine zf (v := .int .i64 0) hA 8 rfl rfl rfl rfl hP (hM.sub (cN (cN (cN (cC (List.nil_sublist _)))))) (fun w1 hM => zj Tryz.underlying50 rfl) ?_
 intro a hA
 refine zf (v := .bool true) hA 9 rfl rfl rfl rfl hP (hM.sub (cN (cN (cN (cC (List.nil_sublist _)))))) (fun w1 hM => qg rfl rfl (fun w => by kernel_rfl)) ?_
 intro a hA
 refine zf (v := .bool true) hA 10 rfl rfl rfl rfl hP (hM.sub (cN (cN (cN (cC (List.nil_sublist _)))))) (fun w1 hM => qi rfl rfl rfl rfl) ?_
 intro a hA
 refine zf hA 11 rfl rfl rfl rfl hP (hM.sub (cN (cN (cN (cC (List.nil_sublist _)))))) (fun w1 hM => qb rfl) ?_
 intro a hA
 refine qy (by kernel_rfl) (jz (us := (ja 0 (.slice none 0 0) (.slice none 0 0))) (L' := (.row 52 15 (.slice (some ⟨g15, 0, none⟩) 1 ca16) 1 ((ja 3 (.slice sf 1 cf) (.slice sn 1 cn))) :: .row 52 15 (.slice (some ⟨g11, 0, none⟩) 1 1) 1 ((ja 3 (.slice sf 1 cf) (.slice sn 1 cn))) :: .obj g4 (.cells (ja 0 (.slice none 0 0) (.slice none 0 0)).toArray 52) :: .obj g2 (.cells (ja 0 (.slice none 0 0) (.slice none 0 0)).toArray 52) :: [])) hA hM 12 rfl rfl rfl (zh rfl rfl rfl (by kernel_rfl) hM 2 rfl rfl rfl) 2 rfl rfl rfl ?_)
 intro w22 hM
 refine ⟨(hM.sub (cN (cN (cN (cC (List.nil_sublist _)))))), ?_⟩
 refine zf hA 13 rfl rfl rfl rfl hP (hM.sub (cN (cN (cN (cC (List.nil_sublist _)))))) (fun w1 hM => qb rfl) ?_
 intro a hA
 refine zw (by kernel_rfl) ?_
 refine hK21 _ _ ?_
 refine wp_ret ?_
 refine hret _ _ ?_
 refine ze (v := .tuple #[.slice (some ⟨g15, 0, none⟩) 1 ca16, .agg (ja 0 (.slice none 0 0) (.slice none 0 0)).toArray, .bool true]) hA rfl (.cons (ql rfl) (.cons (yz hM JcG_isS_52 rfl 2 rfl (cs := [.int .i64 0, .slice none 0 0, .int .i64 0, .int .i64 0, .bool false, .slice none 0 0, .slice none 0 0, .bool false, .slice none 0 0, .slice none 0 0, .string (⟨#[]⟩), .slice none 0 0, .slice none 0 0, .slice none 0 0, .slice none 0 0]) rfl rfl) (.cons (ql rfl) .nil))) rfl ?_
 replace hM := hM.sub (cC (cN (cN (cN (.refl _)))))
 exact ⟨_, _, rfl, hM⟩
theorem outer3_any {w : World} {sf sn : Option Addr} {cf cn : Nat} : Calls Tryz.prog 41 #[.agg (ja 3 (.slice sf 1 cf) (.slice sn 1 cn)).toArray] w fun e w' => e = .returned (.bool true) ∧ Below w.heap.size w w' := by
 have hM : Mg w w ([]) := Mg.start w
 refine zb (l := [(0, .agg (ja 3 (.slice sf 1 cf) (.slice sn 1 cn)).toArray)]) Tryz.func41 rfl Tryz.ntmps41 rfl rfl ?_
 intro Q hret hnorm hP a hA
 refine wp_seq_k (fun K1 hK1 => ?_)
 refine wp_region_lit ?_
 refine jc (vs := (ja 3 (.slice sf 1 cf) (.slice sn 1 cn))) (t := 52) hA hM rfl rfl rfl (fun g => .pointer (some ⟨g, 0, none⟩)) (zm rfl rfl) (by decide) ?_
 intro g2 w3 hM a hA
 refine qa hA rfl rfl rfl (qb rfl) ?_
 intro a hA
 refine qf ?_
 refine hK1 _ _ ?_
 refine wp_seq_k (fun K4 hK4 => ?_)
 refine wp_seq_k (fun K5 hK5 => ?_)
 refine wp_region_lit ?_
 refine qa (v := .pointer (some ⟨g2, 0, none⟩)) hA rfl rfl rfl (qk JcG_fld_52_0 rfl rfl) ?_
 intro a hA
 refine qa hA rfl rfl rfl (zk hM JcG_is1_3 rfl 0 rfl rfl) ?_
 intro a hA
 refine qf ?_
 refine hK5 _ _ ?_
 refine wp_block ?_
 refine wp_seq_k (fun K6 hK6 => ?_)
 refine wp_seq_k (fun K7 hK7 => ?_)
 refine wp_region_lit ?_
 refine qa (v := .bool false) hA rfl rfl rfl (qg rfl rfl (fun w => by kernel_rfl)) ?_
 intro a hA
 refine qa hA rfl rfl rfl (qb rfl) ?_
 intro a hA
 refine qf ?_
 refine hK7 _ _ ?_
 refine wp_cond_false (hA.ev rfl) ?_
 refine wp_region_lit ?_
 refine qa (v := .bool false) hA rfl rfl rfl (qg rfl rfl (fun w => by kernel_rfl)) ?_
 intro a hA
 refine qa hA rfl rfl rfl (qb rfl) ?_
 intro a hA
 refine qf ?_
 refine hK6 _ _ ?_
 refine wp_cond_false (hA.ev rfl) ?_
 refine wp_seq_k (fun K8 hK8 => ?_)
 refine wp_region_lit ?_
 refine qa (v := .bool true) hA rfl rfl rfl (qg rfl rfl (fun w => by kernel_rfl)) ?_
 intro a hA
 refine qa hA rfl rfl rfl (qb rfl) ?_
 intro a hA
 refine qf ?_
 refine hK8 _ _ ?_
 refine wp_cond_true (hA.ev rfl) ?_
 refine wp_seq_k (fun K9 hK9 => ?_)
 refine wp_region_lit ?_
 refine qa (v := .pointer (some ⟨g2, 14, none⟩)) hA rfl rfl rfl (qk JcG_fld_52_4 rfl rfl) ?_
 intro a hA
 refine qa hA rfl rfl rfl (zk hM JcG_is1_49 rfl 0 rfl rfl) ?_
 intro a hA
 refine qa (v := .int .i64 1) hA rfl rfl rfl (zj Tryz.underlying49 rfl) ?_
 intro a hA
 refine qa (v := .bool true) hA rfl rfl rfl (qg rfl rfl (fun w => by kernel_rfl)) ?_
 intro a hA
 refine qa hA rfl rfl rfl (qb rfl) ?_
 intro a hA
 refine qf ?_
 refine hK9 _ _ ?_
 refine wp_ret ?_
 refine hret _ _ ?_
 refine ze (v := .bool true) hA rfl (.cons (ql rfl) .nil) rfl ?_
 exact ⟨rfl, hM.bel⟩
theorem qbd {w : World} {so : Option Addr} {ca : Nat} {x y : ByteArray} (hR : Rc w so [.string x, .string y]) : Calls Tryz.prog 23 #[.slice so 1 ca] w fun e w' => ∃ g, e = .returned (.tuple #[.agg #[.slice so 1 ca, .map (some g)], .int .i64 0]) ∧ Mg w w' [.obj g (qde [⟨x, .int .i64 0, 0⟩] 1)] := by
 obtain ⟨br, or_, hsr, hHr⟩ := here_rc hR (by simp)
 have hM : Mg w w ([]) := Mg.start w
 refine zb (l := [(0, .slice so 1 ca)]) Tryz.func23 rfl Tryz.ntmps23 rfl rfl ?_
 intro Q hret hnorm hP a hA
 refine wp_seq_k (fun K1 hK1 => ?_)
 refine wp_region_lit ?_
 refine jc (vs := [.slice none 0 0, .map none]) (t := 67) hA hM rfl rfl rfl (fun g => .pointer (some ⟨g, 0, none⟩)) (zd (z := .agg #[.slice none 0 0, .map none]) (by kernel_rfl) rfl) (by decide) ?_
 intro g2 w3 hM a hA
 refine qa hA rfl rfl rfl (qb rfl) ?_
 intro a hA
 refine qf ?_
 refine hK1 _ _ ?_
 refine wp_seq_k (fun K4 hK4 => ?_)
 refine wp_region_lit ?_
 refine s_makeMapS hA hM rfl rfl rfl rfl ?_
 intro g5 w6 hM a hA
 refine qa hA rfl rfl rfl (qb rfl) ?_
 intro a hA
 refine qf ?_
 refine hK4 _ _ ?_
 refine wp_seq_k (fun K7 hK7 => ?_)
 refine wp_seq_k (fun K8 hK8 => ?_)
 refine wp_region_lit ?_
 refine qa hA rfl rfl rfl (qe rfl) ?_
 intro a hA
 refine qa (v := .int .i64 1) hA rfl rfl rfl (zj Tryz.underlying46 rfl) ?_
 intro a hA
 refine qa hA rfl rfl rfl (qe rfl) ?_
 intro a hA
 refine qf ?_
 refine hK8 _ _ ?_
 refine wp_block ?_
 refine wp_loop_rounds 3 ?_
 refine jg ?_
 intro K9 hK9
 refine wp_seq_k (fun K10 hK10 => ?_)
 refine wp_region_lit ?_
 refine qa (v := .bool true) hA rfl rfl rfl (qg rfl rfl (fun w => by kernel_rfl)) ?_
 intro a hA
 refine qf ?_
 refine hK10 _ _ ?_
 refine wp_seq_k (fun K11 hK11 => ?_)
 refine wp_cond_true (hA.ev rfl) ?_
 refine wp_skip ?_
 refine hK11 _ _ ?_
 refine wp_seq_k (fun K12 hK12 => ?_)
 refine wp_block ?_
 refine wp_seq_k (fun K13 hK13 => ?_)
 refine wp_region_lit ?_
 refine qa hA rfl rfl rfl (qe rfl) ?_
 intro a hA
 refine qa (v := .pointer (some ⟨br, or_ + 0 * 2, none⟩)) hA rfl rfl rfl (jd (k := 0) Tryz.underlying46 (by kernel_rfl) rfl rfl rfl hsr (by omega)) ?_
 intro a hA
 refine qa hA rfl rfl rfl (vh hM hHr JcG_isS_54 rfl rfl) ?_
 intro a hA
 refine jc (vs := [.string (⟨#[]⟩), .string (⟨#[]⟩)]) (t := 54) hA hM rfl rfl rfl (fun g => .pointer (some ⟨g, 0, none⟩)) (zd (z := .agg #[.string (⟨#[]⟩), .string (⟨#[]⟩)]) (by kernel_rfl) rfl) (by decide) ?_
 intro g14 w15 hM a hA
 refine qa hA rfl rfl rfl (qb rfl) ?_
 intro a hA
 refine zq (us := [.string x, .string y]) (L' := (.obj g14 (.cells #[.string x, .string y] 54) :: .obj g5 (qde ([]) 0) :: .obj g2 (.cells #[.slice none 0 0, .map none] 67) :: [])) hA hM rfl rfl (zh rfl rfl rfl (by kernel_rfl) hM 0 rfl rfl rfl) 0 rfl rfl rfl ?_
 intro w16 hM
 refine qf ?_
 refine hK13 _ _ ?_
 refine wp_region_lit ?_
 refine qa hA rfl rfl rfl (qe rfl) ?_
 intro a hA
 refine qa (v := .pointer (some ⟨g14, 0, none⟩)) hA rfl rfl rfl (qk JcG_fld_54_0 rfl rfl) ?_
 intro a hA
 refine qa hA rfl rfl rfl (zk hM JcG_is1_9 rfl 0 rfl rfl) ?_
 intro a hA
 refine qa hA rfl rfl rfl (qe rfl) ?_
 intro a hA
 refine s_setObjS (L' := (.obj g14 (.cells #[.string x, .string y] 54) :: .obj g5 (qde ([⟨x, .int .i64 0, 0⟩]) 1) :: .obj g2 (.cells #[.slice none 0 0, .map none] 67) :: [])) hA hM rfl rfl (sets_newS hM Tryz.underlying65 Tryz.underlying9 rfl rfl rfl 1 rfl rfl) 1 rfl (qjd _ _) rfl ?_
 intro w17 hM
 refine qf ?_
 refine hK12 _ _ ?_
 refine wp_region_lit ?_
 refine qa (v := .int .i64 1) hA rfl rfl rfl (qg rfl rfl (fun w => by kernel_rfl)) ?_
 intro a hA
 refine qa hA rfl rfl rfl (qe rfl) ?_
 intro a hA
 refine qf ?_
 refine hK9 _ _ ?_
 refine jg ?_
 intro K18 hK18
 refine wp_seq_k (fun K19 hK19 => ?_)
 refine wp_region_lit ?_
 refine qa (v := .bool false) hA rfl rfl rfl (qg rfl rfl (fun w => by kernel_rfl)) ?_
 intro a hA
 refine qf ?_
 refine hK19 _ _ ?_
 refine wp_seq_k (fun K20 hK20 => ?_)
 refine wp_cond_false (hA.ev rfl) ?_
 refine wp_exit ?_
 refine hK7 _ _ ?_
 refine wp_seq_k (fun K21 hK21 => ?_)
 refine wp_seq_k (fun K22 hK22 => ?_)
 refine wp_region_lit ?_
 refine qa hA rfl rfl rfl (qe rfl) ?_
 intro a hA
 refine qa (v := .int .i64 1) hA rfl rfl rfl (does_lenM (hM.obj 1 rfl) Tryz.underlying65 rfl) ?_
 intro a hA
 refine qa hA rfl rfl rfl (qe rfl) ?_
 intro a hA
 refine qa (v := .int .i64 1) hA rfl rfl rfl (zj Tryz.underlying46 rfl) ?_
 intro a hA
 refine qa (v := .bool false) hA rfl rfl rfl (qg rfl rfl (fun w => by kernel_rfl)) ?_
 intro a hA
 refine qf ?_
 refine hK22 _ _ ?_
 refine wp_cond_false (hA.ev rfl) ?_
 refine wp_skip ?_
 refine hK21 _ _ ?_
 refine wp_seq_k (fun K23 hK23 => ?_)
 refine wp_region_lit ?_
 refine qa hA rfl rfl rfl (qe rfl) ?_
 intro a hA
 refine qa hA rfl rfl rfl (qe rfl) ?_
 intro a hA
 refine qa (v := .agg #[.slice so 1 ca, .map (some g5)]) hA rfl rfl rfl (jt rfl (fun w => by kernel_rfl)) ?_
 intro a hA
 refine zq (us := [.slice so 1 ca, .map (some g5)]) (L' := (.obj g14 (.cells #[.string x, .string y] 54) :: .obj g5 (qde ([⟨x, .int .i64 0, 0⟩]) 1) :: .obj g2 (.cells #[.slice so 1 ca, .map (some g5)] 67) :: [])) hA hM rfl rfl (zh rfl rfl rfl (by kernel_rfl) hM 2 rfl rfl rfl) 2 rfl rfl rfl ?_
 intro w24 hM
 refine qa hA rfl rfl rfl (qb rfl) ?_
 intro a hA
 refine qf ?_
 refine hK23 _ _ ?_
 refine wp_ret ?_
 refine hret _ _ ?_
 refine ze (v := .tuple #[.agg #[.slice so 1 ca, .map (some g5)], .int .i64 0]) hA rfl (.cons (yz hM JcG_isS_67 rfl 2 rfl (cs := [.slice so 1 ca, .map (some g5)]) rfl rfl) (.cons (ql rfl) .nil)) rfl ?_
 replace hM := hM.sub (cN (cC (cN (.refl _))))
 exact ⟨_, rfl, hM⟩
theorem fl1_any {w : World} {so : Option Addr} {ca : Nat} {x y : ByteArray} (hR : Rc w so [.string x, .string y]) : Calls Tryz.prog 46 #[.slice so 1 ca] w fun e w' => ∃ g ca', e = .returned (.slice (some ⟨g, 0, none⟩) 1 ca') ∧ Mg w w' [.row 54 2 (.slice (some ⟨g, 0, none⟩) 1 ca') 1 [Value.string x, .string y]] := by
 have hM : Mg w w ([]) := Mg.start w
 refine zb (l := [(0, .slice so 1 ca)]) Tryz.func46 rfl Tryz.ntmps46 rfl rfl ?_
 intro Q hret hnorm hP a hA
 refine wp_seq_k (fun K1 hK1 => ?_)
 refine wp_region_lit ?_
 refine qa hA rfl rfl rfl (qb rfl) ?_
 intro a hA
 refine qf ?_
 refine hK1 _ _ ?_
 refine wp_seq_k (fun K2 hK2 => ?_)
 refine wp_region_lit ?_
 refine qa hA rfl rfl rfl (qe rfl) ?_
 intro a hA
 replace hM := hM.nilRow (qp qw) 54 2
 refine vp (e := 54) (sz := 2) (k := 0) (q := 0) (m := 1) (xs := []) (news := [Value.string x, .string y]) (L' := fun v3 => (.row 54 2 (v3) (0 + 1) ([] ++ [Value.string x, .string y]) :: [])) hA rfl rfl rfl (qbh (z := .agg #[.string ⟨#[]⟩, .string ⟨#[]⟩]) (sz := 2) (by_ := 32) Tryz.underlying46 (by kernel_rfl) rfl rfl rfl hM 0 rfl rfl rfl rfl (hR.below hM.bel) (by intro u hu; simp only [ja, List.mem_cons, List.not_mem_nil, or_false] at hu; rcases hu with rfl | rfl <;> rfl) (by decide)) (fun _ => rfl) ?_
 intro v3 w4 hM a hA
 obtain ⟨g5, ca6, rfl⟩ := row_open (hM.has 0 rfl) (by decide)
 replace hM : Mg w w4 (.row 54 2 (.slice (some ⟨g5, 0, none⟩) 1 ca6) 1 ([Value.string x, .string y]) :: []) := hM
 refine qa hA rfl rfl rfl (qb rfl) ?_
 intro a hA
 refine qf ?_
 refine hK2 _ _ ?_
 refine wp_ret ?_
 refine hret _ _ ?_
 refine ze (v := .slice (some ⟨g5, 0, none⟩) 1 ca6) hA rfl (.cons (ql rfl) .nil) rfl ?_
 exact ⟨_, _, rfl, hM⟩
theorem qlb {w : World} {so : Option Addr} {ca : Nat} {x y : ByteArray} (hR : Rc w so [.string x, .string y]) {p : ByteArray} {gm : Nat} (hp : p.size + x.size ≤ 140737488355327) : Calls Tryz.prog 44 #[.agg #[.slice so 1 ca, .map (some gm)], .string p] w fun e w' => ∃ g ca', e = .returned (.slice (some ⟨g, 0, none⟩) 1 ca') ∧ Mg w w' [.row 54 2 (.slice (some ⟨g, 0, none⟩) 1 ca') 1 [Value.string ((p ++ x)), .string y]] := by
 have hM : Mg w w ([]) := Mg.start w
 refine zb (l := [(0, .agg #[.slice so 1 ca, .map (some gm)]), (1, .string p)]) Tryz.func44 rfl Tryz.ntmps44 rfl rfl ?_
 intro Q hret hnorm hP a hA
 refine wp_seq_k (fun K1 hK1 => ?_)
 refine wp_region_lit ?_
 refine jc (vs := [.slice so 1 ca, .map (some gm)]) (t := 67) hA hM rfl rfl rfl (fun g => .pointer (some ⟨g, 0, none⟩)) (zm rfl rfl) (by decide) ?_
 intro g2 w3 hM a hA
 refine qa hA rfl rfl rfl (qb rfl) ?_
 intro a hA
 refine qf ?_
 refine hK1 _ _ ?_
 refine wp_seq_k (fun K4 hK4 => ?_)
 refine wp_region_lit ?_
 refine qa (v := .pointer (some ⟨g2, 0, none⟩)) hA rfl rfl rfl (qk JcG_fld_67_0 rfl rfl) ?_
 intro a hA
 refine qa hA rfl rfl rfl (zk hM JcG_is1_46 rfl 0 rfl rfl) ?_
 intro a hA
 refine qm hA rfl rfl rfl (qh rfl rfl (fun w => by kernel_rfl)) (fl1_any (hR.below hM.bel)) ?_
 rintro _ w8 ⟨g5, ca6, rfl, hM7⟩
 replace hM : Mg w w8 (.row 54 2 (.slice (some ⟨g5, 0, none⟩) 1 ca6) 1 ([Value.string x, .string y]) :: .obj g2 (.cells #[.slice so 1 ca, .map (some gm)] 67) :: []) := (hM.both hM7 (qr (by simp) (qp qw)) (qr (by simp) (qp qw)))
 refine ⟨_, rfl, ?_⟩
 intro a hA
 refine qa hA rfl rfl rfl (qb rfl) ?_
 intro a hA
 refine qf ?_
 refine hK4 _ _ ?_
 refine wp_seq_k (fun K9 hK9 => ?_)
 refine wp_seq_k (fun K10 hK10 => ?_)
 refine wp_region_lit ?_
 refine qa hA rfl rfl rfl (qe rfl) ?_
 intro a hA
 refine qa (v := .int .i64 1) hA rfl rfl rfl (zj Tryz.underlying46 rfl) ?_
 intro a hA
 refine qa hA rfl rfl rfl (qe rfl) ?_
 intro a hA
 refine qf ?_
 refine hK10 _ _ ?_
 refine wp_block ?_
 refine wp_loop_rounds 3 ?_
 refine jg ?_
 intro K11 hK11
 refine wp_seq_k (fun K12 hK12 => ?_)
 refine wp_region_lit ?_
 refine qa (v := .bool true) hA rfl rfl rfl (qg rfl rfl (fun w => by kernel_rfl)) ?_
 intro a hA
 refine qf ?_
 refine hK12 _ _ ?_
 refine wp_seq_k (fun K13 hK13 => ?_)
 refine wp_cond_true (hA.ev rfl) ?_
 refine wp_skip ?_
 refine hK13 _ _ ?_
 refine wp_seq_k (fun K14 hK14 => ?_)
 refine wp_block ?_
 refine wp_seq_k (fun K15 hK15 => ?_)
 refine wp_region_lit ?_
 refine qa hA rfl rfl rfl (qe rfl) ?_
 intro a hA
 refine qa hA rfl rfl rfl (qb rfl) ?_
 intro a hA
 refine qf ?_
 refine hK15 _ _ ?_
 refine wp_region_lit ?_
 refine qa hA rfl rfl rfl (qe rfl) ?_
 intro a hA
 refine qa hA rfl rfl rfl (qe rfl) ?_
 intro a hA
 refine qa hA rfl rfl rfl (qe rfl) ?_
 intro a hA
 refine qa hA rfl rfl rfl (qe rfl) ?_
 intro a hA
 refine qa hA rfl rfl rfl (qe rfl) ?_
 intro a hA
 refine qa (v := .pointer (some ⟨g5, 0, none⟩)) hA rfl rfl rfl (vb (sz := 2) (k := 0) Tryz.underlying46 (by kernel_rfl) rfl rfl rfl Nat.zero_lt_one) ?_
 intro a hA
 refine qa (v := .pointer (some ⟨g5, 0, none⟩)) hA rfl rfl rfl (qk JcG_fld_54_0 rfl rfl) ?_
 intro a hA
 refine qa hA rfl rfl rfl (m_loadE hM 0 rfl rfl JcG_is1_9 rfl) ?_
 intro a hA
 refine qa (v := .string (p ++ x)) hA rfl rfl rfl (qg rfl rfl (bin_addS (by first | omega | assumption))) ?_
 intro a hA
 refine qa (v := .pointer (some ⟨g5, 0, none⟩)) hA rfl rfl rfl (vb (sz := 2) (k := 0) Tryz.underlying46 (by kernel_rfl) rfl rfl rfl Nat.zero_lt_one) ?_
 intro a hA
 refine qa (v := .pointer (some ⟨g5, 0, none⟩)) hA rfl rfl rfl (qk JcG_fld_54_0 rfl rfl) ?_
 intro a hA
 refine s_storeE (us := []) (L' := (.row 54 2 (.slice (some ⟨g5, 0, none⟩) 1 ca6) 1 ([Value.string (p ++ x), .string y]) :: .obj g2 (.cells #[.slice so 1 ca, .map (some gm)] 67) :: [])) hA hM rfl rfl (m_storeE (cs := [.string (p ++ x)]) rfl rfl rfl (by kernel_rfl) hM 0 rfl (Nat.le_of_ble_eq_true rfl) rfl) 0 rfl rfl ?_
 intro w16 hM
 refine qf ?_
 refine hK14 _ _ ?_
 refine wp_region_lit ?_
 refine qa (v := .int .i64 1) hA rfl rfl rfl (qg rfl rfl (fun w => by kernel_rfl)) ?_
 intro a hA
 refine qa hA rfl rfl rfl (qe rfl) ?_
 intro a hA
 refine qf ?_
 refine hK11 _ _ ?_
 refine jg ?_
 intro K17 hK17
 refine wp_seq_k (fun K18 hK18 => ?_)
 refine wp_region_lit ?_
 refine qa (v := .bool false) hA rfl rfl rfl (qg rfl rfl (fun w => by kernel_rfl)) ?_
 intro a hA
 refine qf ?_
 refine hK18 _ _ ?_
 refine wp_seq_k (fun K19 hK19 => ?_)
 refine wp_cond_false (hA.ev rfl) ?_
 refine wp_exit ?_
 refine hK9 _ _ ?_
 refine wp_seq_k (fun K20 hK20 => ?_)
 refine wp_region_lit ?_
 refine qa hA rfl rfl rfl (qe rfl) ?_
 intro a hA
 refine qa hA rfl rfl rfl (qb rfl) ?_
 intro a hA
 refine qf ?_
 refine hK20 _ _ ?_
 refine wp_ret ?_
 refine hret _ _ ?_
 refine ze (v := .slice (some ⟨g5, 0, none⟩) 1 ca6) hA rfl (.cons (ql rfl) .nil) rfl ?_
 replace hM := hM.sub (cC (cN (.refl _)))
 exact ⟨_, _, rfl, hM⟩
theorem through3_any {w : World} {so : Option Addr} {ca : Nat} {x y : ByteArray} (hR : Rc w so [.string x, .string y]) {p : ByteArray} {gm : Nat} {sf sn : Option Addr} {cf cn : Nat} (hN : Rc w sn [.string p]) (hp : p.size + x.size ≤ 140737488355327) : Calls Tryz.prog 25 #[.agg #[.slice so 1 ca, .map (some gm)], .agg (ja 3 (.slice sf 1 cf) (.slice sn 1 cn)).toArray] w fun e w' => ∃ g ca' g2, e = .returned (.tuple #[.agg #[.slice (some ⟨g, 0, none⟩) 1 ca', .map (some g2)], .int .i64 0]) ∧ Mg w w' [.row 54 2 (.slice (some ⟨g, 0, none⟩) 1 ca') 1 [Value.string ((p ++ x)), .string y]] := by
 have hM : Mg w w ([]) := Mg.start w
 refine zb (l := [(0, .agg #[.slice so 1 ca, .map (some gm)]), (1, .agg (ja 3 (.slice sf 1 cf) (.slice sn 1 cn)).toArray)]) Tryz.func25 rfl Tryz.ntmps25 rfl rfl ?_
 intro Q hret hnorm hP a hA
 refine wp_seq_k (fun K1 hK1 => ?_)
 refine wp_region_lit ?_
 refine jc (vs := [.slice so 1 ca, .map (some gm)]) (t := 67) hA hM rfl rfl rfl (fun g => .pointer (some ⟨g, 0, none⟩)) (zm rfl rfl) (by decide) ?_
 intro g2 w3 hM a hA
 refine jc (vs := (ja 3 (.slice sf 1 cf) (.slice sn 1 cn))) (t := 52) hA hM rfl rfl rfl (fun g => .pointer (some ⟨g, 0, none⟩)) (zm rfl rfl) (by decide) ?_
 intro g4 w5 hM a hA
 refine jc (vs := [.slice none 0 0, .map none]) (t := 67) hA hM rfl rfl rfl (fun g => .pointer (some ⟨g, 0, none⟩)) (zd (z := .agg #[.slice none 0 0, .map none]) (by kernel_rfl) rfl) (by decide) ?_
 intro g6 w7 hM a hA
 refine qa hA rfl rfl rfl (qb rfl) ?_
 intro a hA
 refine qf ?_
 refine hK1 _ _ ?_
 refine wp_seq_k (fun K8 hK8 => ?_)
 refine wp_seq_k (fun K9 hK9 => ?_)
 refine wp_region_lit ?_
 refine qa hA rfl rfl rfl (jf hM JcG_isS_52 rfl 1 rfl (cs := (ja 3 (.slice sf 1 cf) (.slice sn 1 cn))) rfl rfl) ?_
 intro a hA
 refine qm hA rfl rfl rfl (qh rfl rfl (fun w => by kernel_rfl)) (outer3_any) ?_
 rintro _ w10 ⟨rfl, hb3⟩
 replace hM := hM.call hb3
 refine ⟨_, rfl, ?_⟩
 intro a hA
 refine qa (v := .bool false) hA rfl rfl rfl (qz rfl zg) ?_
 intro a hA
 refine qf ?_
 refine hK9 _ _ ?_
 refine wp_cond_false (hA.ev rfl) ?_
 refine wp_skip ?_
 refine hK8 _ _ ?_
 refine wp_seq_k (fun K11 hK11 => ?_)
 refine wp_region_lit ?_
 refine qa hA rfl rfl rfl (qb rfl) ?_
 intro a hA
 refine qf ?_
 refine hK11 _ _ ?_
 refine wp_seq_k (fun K12 hK12 => ?_)
 refine wp_region_lit ?_
 refine qa hA rfl rfl rfl (qb rfl) ?_
 intro a hA
 refine qf ?_
 refine hK12 _ _ ?_
 refine wp_seq_k (fun K13 hK13 => ?_)
 refine wp_seq_k (fun K14 hK14 => ?_)
 refine wp_region_lit ?_
 refine qa (v := .pointer (some ⟨g4, 0, none⟩)) hA rfl rfl rfl (qk JcG_fld_52_0 rfl rfl) ?_
 intro a hA
 refine qa hA rfl rfl rfl (zk hM JcG_is1_3 rfl 1 rfl rfl) ?_
 intro a hA
 refine qf ?_
 refine hK14 _ _ ?_
 refine wp_block ?_
 refine wp_seq_k (fun K15 hK15 => ?_)
 refine wp_region_lit ?_
 refine qa (v := .bool false) hA rfl rfl rfl (qg rfl rfl (fun w => by kernel_rfl)) ?_
 intro a hA
 refine qa hA rfl rfl rfl (qb rfl) ?_
 intro a hA
 refine qf ?_
 refine hK15 _ _ ?_
 refine wp_cond_false (hA.ev rfl) ?_
 refine wp_seq_k (fun K16 hK16 => ?_)
 refine wp_region_lit ?_
 refine qa (v := .bool false) hA rfl rfl rfl (qg rfl rfl (fun w => by kernel_rfl)) ?_
 intro a hA
 refine qa hA rfl rfl rfl (qb rfl) ?_
 intro a hA
 refine qf ?_
 refine hK16 _ _ ?_
 refine wp_cond_false (hA.ev rfl) ?_
 refine wp_seq_k (fun K17 hK17 => ?_)
 refine wp_region_lit ?_
 refine qa (v := .bool true) hA rfl rfl rfl (qg rfl rfl (fun w => by kernel_rfl)) ?_
 intro a hA
 refine qa hA rfl rfl rfl (qb rfl) ?_
 intro a hA
 refine qf ?_
 refine hK17 _ _ ?_
 refine wp_cond_true (hA.ev rfl) ?_
 refine vd (S := fun w1 => Mg w w1 (.obj g4 (.cells (ja 3 (.slice sf 1 cf) (.slice sn 1 cn)).toArray 52) :: .obj g2 (.cells #[.slice so 1 ca, .map (some gm)] 67) :: [])) (by kernel_rfl) ?_
 replace hM := hM.drew
 refine zf hA 0 rfl rfl rfl rfl hP (hM.sub (cN (cC (cC (List.nil_sublist _))))) (fun w1 hM => jf hM JcG_isS_67 rfl 1 rfl (cs := [.slice so 1 ca, .map (some gm)]) rfl rfl) ?_
 intro a hA
 refine zf (v := .pointer (some ⟨g4, 14, none⟩)) hA 1 rfl rfl rfl rfl hP (hM.sub (cN (cC (cC (List.nil_sublist _))))) (fun w1 hM => qk JcG_fld_52_4 rfl rfl) ?_
 intro a hA
 refine zf hA 2 rfl rfl rfl rfl hP (hM.sub (cN (cC (cC (List.nil_sublist _))))) (fun w1 hM => zk hM JcG_is1_49 rfl 0 rfl rfl) ?_
 intro a hA
 obtain ⟨bx18, ox19, ux20, hs21, hc22, hi23⟩ := hN.at1 (i := 0) (by (show 0 < 1); omega)
 obtain rfl : .string p = ux20 := by simpa using hi23
 refine zf (v := .pointer (some ⟨bx18, ox19 + 0, none⟩)) hA 3 rfl rfl rfl rfl hP (hM.sub (cN (cC (cC (List.nil_sublist _))))) (fun w1 hM => zp (k := 0) Tryz.underlying49 (by kernel_rfl) rfl rfl (by first | rfl | omega) hs21 (by omega)) ?_
 intro a hA
 refine zf hA 4 rfl rfl rfl rfl hP (hM.sub (cN (cC (cC (List.nil_sublist _))))) (fun w1 hM => jj hM hc22 JcG_is1_9 rfl) ?_
 intro a hA
 refine qy (by kernel_rfl) (zn hA 5 rfl rfl rfl rfl (qh rfl rfl (fun w => by kernel_rfl)) (qlb (hR.below hM.bel) hp) ?_)
 rintro _ w27 ⟨g24, ca25, rfl, hM26⟩
 replace hM : Mg w w27 (.row 54 2 (.slice (some ⟨g24, 0, none⟩) 1 ca25) 1 ([Value.string ((p ++ x)), .string y]) :: .obj g6 (.cells #[.slice none 0 0, .map none] 67) :: .obj g4 (.cells (ja 3 (.slice sf 1 cf) (.slice sn 1 cn)).toArray 52) :: .obj g2 (.cells #[.slice so 1 ca, .map (some gm)] 67) :: []) := (hM.both hM26 (qr (by simp) (qr (by simp) (qr (by simp) (qp qw)))) (qr (by simp) (qp qw)))
 refine ⟨_, rfl, (hM.sub (cN (cN (cC (cC (List.nil_sublist _)))))), ?_⟩
 intro a hA
 refine zf hA 6 rfl rfl rfl rfl hP (hM.sub (cN (cN (cC (cC (List.nil_sublist _)))))) (fun w1 hM => qb rfl) ?_
 intro a hA
 refine zw (by kernel_rfl) ?_
 refine hK13 _ _ ?_
 refine wp_seq_k (fun K28 hK28 => ?_)
 refine wp_seq_k (fun K29 hK29 => ?_)
 refine wp_region_lit ?_
 refine qa hA rfl rfl rfl (qe rfl) ?_
 intro a hA
 refine qa (v := .bool false) hA rfl rfl rfl (qg rfl rfl (fun w => by kernel_rfl)) ?_
 intro a hA
 refine qf ?_
 refine hK29 _ _ ?_
 refine wp_cond_false (hA.ev rfl) ?_
 refine wp_skip ?_
 refine hK28 _ _ ?_
 refine wp_seq_k (fun K30 hK30 => ?_)
 refine wp_region_lit ?_
 refine qa hA rfl rfl rfl (qe rfl) ?_
 intro a hA
 refine qm hA rfl rfl rfl (qh rfl rfl (fun w => by kernel_rfl)) (qbd (kl (hM.has 0 rfl))) ?_
 rintro _ w33 ⟨g31, rfl, hM32⟩
 replace hM : Mg w w33 (.obj g31 (qde ([⟨(p ++ x), .int .i64 0, 0⟩]) 1) :: .row 54 2 (.slice (some ⟨g24, 0, none⟩) 1 ca25) 1 ([Value.string ((p ++ x)), .string y]) :: .obj g6 (.cells #[.slice none 0 0, .map none] 67) :: .obj g4 (.cells (ja 3 (.slice sf 1 cf) (.slice sn 1 cn)).toArray 52) :: .obj g2 (.cells #[.slice so 1 ca, .map (some gm)] 67) :: []) := (hM.both hM32 (qr (by simp) (qr (by simp) (qr (by simp) (qr (by simp) (qp qw))))) (qr (by simp) (qp qw)))
 refine ⟨_, rfl, ?_⟩
 intro a hA
 refine qa (v := .agg #[.slice (some ⟨g24, 0, none⟩) 1 ca25, .map (some g31)]) hA rfl rfl rfl (qn (vs := [.agg #[.slice (some ⟨g24, 0, none⟩) 1 ca25, .map (some g31)], .int .i64 0]) rfl rfl) ?_
 intro a hA
 refine qa (v := .int .i64 0) hA rfl rfl rfl (qn (vs := [.agg #[.slice (some ⟨g24, 0, none⟩) 1 ca25, .map (some g31)], .int .i64 0]) rfl rfl) ?_
 intro a hA
 refine zq (us := [.slice (some ⟨g24, 0, none⟩) 1 ca25, .map (some g31)]) (L' := (.obj g31 (qde ([⟨(p ++ x), .int .i64 0, 0⟩]) 1) :: .row 54 2 (.slice (some ⟨g24, 0, none⟩) 1 ca25) 1 ([Value.string ((p ++ x)), .string y]) :: .obj g6 (.cells #[.slice (some ⟨g24, 0, none⟩) 1 ca25, .map (some g31)] 67) :: .obj g4 (.cells (ja 3 (.slice sf 1 cf) (.slice sn 1 cn)).toArray 52) :: .obj g2 (.cells #[.slice so 1 ca, .map (some gm)] 67) :: [])) hA hM rfl rfl (zh rfl rfl rfl (by kernel_rfl) hM 2 rfl rfl rfl) 2 rfl rfl rfl ?_
 intro w34 hM
 refine qa hA rfl rfl rfl (qb rfl) ?_
 intro a hA
 refine qf ?_
 refine hK30 _ _ ?_
 refine wp_ret ?_
 refine hret _ _ ?_
 refine ze (v := .tuple #[.agg #[.slice (some ⟨g24, 0, none⟩) 1 ca25, .map (some g31)], .int .i64 0]) hA rfl (.cons (yz hM JcG_isS_67 rfl 2 rfl (cs := [.slice (some ⟨g24, 0, none⟩) 1 ca25, .map (some g31)]) rfl rfl) (.cons (ql rfl) .nil)) rfl ?_
 replace hM := hM.sub (cN (cC (cN (cN (cN (.refl _))))))
 exact ⟨_, _, _, rfl, hM⟩
theorem qje {w : World} {s : ByteArray} (hs : s.size ≤ 281474976710656) : Calls Tryz.prog 47 #[.string s] w fun e w' => e = .returned (.string s) ∧ Below w.heap.size w w' := by
 have hM : Mg w w ([]) := Mg.start w
 refine zb (l := [(0, .string s)]) Tryz.func47 rfl Tryz.ntmps47 rfl rfl ?_
 intro Q hret hnorm hP a hA
 refine wp_seq_k (fun K1 hK1 => ?_)
 refine wp_region_lit ?_
 refine qa hA rfl rfl rfl (qb rfl) ?_
 intro a hA
 refine qf ?_
 refine hK1 _ _ ?_
 refine wp_seq_k (fun K2 hK2 => ?_)
 refine wp_region_lit ?_
 refine qa hA rfl rfl rfl (qe rfl) ?_
 intro a hA
 refine qm hA rfl rfl rfl (qh rfl rfl (fun w => by kernel_rfl)) (Tryz.stringslite_Clone s _ hs) ?_
 rintro _ w3 ⟨rfl, hb1⟩
 replace hM := hM.call hb1
 refine ⟨_, rfl, ?_⟩
 intro a hA
 refine qa hA rfl rfl rfl (qb rfl) ?_
 intro a hA
 refine qf ?_
 refine hK2 _ _ ?_
 refine wp_ret ?_
 refine hret _ _ ?_
 refine ze (v := .string s) hA rfl (.cons (ql rfl) .nil) rfl ?_
 exact ⟨rfl, hM.bel⟩
theorem fresh1_any {w : World} {so : Option Addr} {ca : Nat} {x y : ByteArray} (hR : Rc w so [.string x, .string y]) (hx : x.size ≤ 281474976710656) (hy : y.size ≤ 281474976710656) : Calls Tryz.prog 26 #[.slice so 1 ca] w fun e w' => ∃ g ca', e = .returned (.slice (some ⟨g, 0, none⟩) 1 ca') ∧ Mg w w' [.row 54 2 (.slice (some ⟨g, 0, none⟩) 1 ca') 1 [Value.string x, .string y]] := by
 have hM : Mg w w ([]) := Mg.start w
 refine zb (l := [(0, .slice so 1 ca)]) Tryz.func26 rfl Tryz.ntmps26 rfl rfl ?_
 intro Q hret hnorm hP a hA
 refine wp_seq_k (fun K1 hK1 => ?_)
 refine wp_region_lit ?_
 refine qa hA rfl rfl rfl (qb rfl) ?_
 intro a hA
 refine qf ?_
 refine hK1 _ _ ?_
 refine wp_seq_k (fun K2 hK2 => ?_)
 refine wp_region_lit ?_
 refine qa hA rfl rfl rfl (qe rfl) ?_
 intro a hA
 refine qm hA rfl rfl rfl (qh rfl rfl (fun w => by kernel_rfl)) (fl1_any (hR.below hM.bel)) ?_
 rintro _ w6 ⟨g3, ca4, rfl, hM5⟩
 replace hM : Mg w w6 (.row 54 2 (.slice (some ⟨g3, 0, none⟩) 1 ca4) 1 ([Value.string x, .string y]) :: []) := (hM.both hM5 (qp qw) (qr (by simp) (qp qw)))
 refine ⟨_, rfl, ?_⟩
 intro a hA
 refine qa hA rfl rfl rfl (qb rfl) ?_
 intro a hA
 refine qf ?_
 refine hK2 _ _ ?_
 refine wp_seq_k (fun K7 hK7 => ?_)
 refine wp_seq_k (fun K8 hK8 => ?_)
 refine wp_region_lit ?_
 refine qa hA rfl rfl rfl (qe rfl) ?_
 intro a hA
 refine qa (v := .int .i64 1) hA rfl rfl rfl (zj Tryz.underlying46 rfl) ?_
 intro a hA
 refine qa hA rfl rfl rfl (qe rfl) ?_
 intro a hA
 refine qf ?_
 refine hK8 _ _ ?_
 refine wp_block ?_
 refine wp_loop_rounds 3 ?_
 refine jg ?_
 intro K9 hK9
 refine wp_seq_k (fun K10 hK10 => ?_)
 refine wp_region_lit ?_
 refine qa (v := .bool true) hA rfl rfl rfl (qg rfl rfl (fun w => by kernel_rfl)) ?_
 intro a hA
 refine qf ?_
 refine hK10 _ _ ?_
 refine wp_seq_k (fun K11 hK11 => ?_)
 refine wp_cond_true (hA.ev rfl) ?_
 refine wp_skip ?_
 refine hK11 _ _ ?_
 refine wp_seq_k (fun K12 hK12 => ?_)
 refine wp_block ?_
 refine wp_seq_k (fun K13 hK13 => ?_)
 refine wp_region_lit ?_
 refine qa hA rfl rfl rfl (qe rfl) ?_
 intro a hA
 refine qa (v := .pointer (some ⟨g3, 0, none⟩)) hA rfl rfl rfl (vb (sz := 2) (k := 0) Tryz.underlying46 (by kernel_rfl) rfl rfl rfl Nat.zero_lt_one) ?_
 intro a hA
 refine qa hA rfl rfl rfl (m_loadES hM 0 rfl JcG_isS_54 (cs := [.string x, .string y]) rfl rfl rfl) ?_
 intro a hA
 refine jc (vs := [.string (⟨#[]⟩), .string (⟨#[]⟩)]) (t := 54) hA hM rfl rfl rfl (fun g => .pointer (some ⟨g, 0, none⟩)) (zd (z := .agg #[.string (⟨#[]⟩), .string (⟨#[]⟩)]) (by kernel_rfl) rfl) (by decide) ?_
 intro g14 w15 hM a hA
 refine qa hA rfl rfl rfl (qb rfl) ?_
 intro a hA
 refine zq (us := [.string x, .string y]) (L' := (.obj g14 (.cells #[.string x, .string y] 54) :: .row 54 2 (.slice (some ⟨g3, 0, none⟩) 1 ca4) 1 ([Value.string x, .string y]) :: [])) hA hM rfl rfl (zh rfl rfl rfl (by kernel_rfl) hM 0 rfl rfl rfl) 0 rfl rfl rfl ?_
 intro w16 hM
 refine qf ?_
 refine hK13 _ _ ?_
 refine vd (S := fun w1 => Mg w w1 (.obj g14 (.cells #[.string x, .string y] 54) :: [])) (by kernel_rfl) ?_
 replace hM := hM.drew
 refine zf hA 0 rfl rfl rfl rfl hP (hM.sub (cC (cN (List.nil_sublist _)))) (fun w1 hM => qe rfl) ?_
 intro a hA
 refine zf hA 1 rfl rfl rfl rfl hP (hM.sub (cC (cN (List.nil_sublist _)))) (fun w1 hM => qe rfl) ?_
 intro a hA
 refine zf (v := .pointer (some ⟨g14, 0, none⟩)) hA 2 rfl rfl rfl rfl hP (hM.sub (cC (cN (List.nil_sublist _)))) (fun w1 hM => qk JcG_fld_54_0 rfl rfl) ?_
 intro a hA
 refine zf hA 3 rfl rfl rfl rfl hP (hM.sub (cC (cN (List.nil_sublist _)))) (fun w1 hM => zk hM JcG_is1_9 rfl 0 rfl rfl) ?_
 intro a hA
 refine zf (v := .pointer (some ⟨g14, 1, none⟩)) hA 5 rfl rfl rfl rfl hP (hM.sub (cC (cN (List.nil_sublist _)))) (fun w1 hM => qk JcG_fld_54_1 rfl rfl) ?_
 intro a hA
 refine zf hA 6 rfl rfl rfl rfl hP (hM.sub (cC (cN (List.nil_sublist _)))) (fun w1 hM => zk hM JcG_is1_9 rfl 0 rfl rfl) ?_
 intro a hA
 refine qy (by kernel_rfl) (zn hA 4 rfl rfl rfl rfl (qh rfl rfl (fun w => by kernel_rfl)) (qje (by first | exact hx | exact hy)) ?_)
 rintro _ w18 ⟨rfl, hb17⟩
 replace hM := hM.call hb17
 refine ⟨_, rfl, (hM.sub (cC (cN (List.nil_sublist _)))), ?_⟩
 intro a hA
 refine qy (by kernel_rfl) (zn hA 7 rfl rfl rfl rfl (qh rfl rfl (fun w => by kernel_rfl)) (qje (by first | exact hx | exact hy)) ?_)
 rintro _ w20 ⟨rfl, hb19⟩
 replace hM := hM.call hb19
 refine ⟨_, rfl, (hM.sub (cC (cN (List.nil_sublist _)))), ?_⟩
 intro a hA
 refine zf (v := .agg #[.string x, .string y]) hA 8 rfl rfl rfl rfl hP (hM.sub (cC (cN (List.nil_sublist _)))) (fun w1 hM => jt rfl (fun w => by kernel_rfl)) ?_
 intro a hA
 refine zf (v := .pointer (some ⟨g3, 0, none⟩)) hA 9 rfl rfl rfl rfl hP (hM.sub (cC (cN (List.nil_sublist _)))) (fun w1 hM => vb (sz := 2) (k := 0) Tryz.underlying46 (by kernel_rfl) rfl rfl rfl Nat.zero_lt_one) ?_
 intro a hA
 refine qy (by kernel_rfl) (g_storeE (us := []) (L' := (.obj g14 (.cells #[.string x, .string y] 54) :: .row 54 2 (.slice (some ⟨g3, 0, none⟩) 1 ca4) 1 ([Value.string x, .string y]) :: [])) hA hM 10 rfl rfl rfl (m_storeE (cs := [.string x, .string y]) rfl rfl rfl (by kernel_rfl) hM 1 rfl (Nat.le_of_ble_eq_true rfl) rfl) 1 rfl rfl ?_)
 intro w21 hM
 refine ⟨(hM.sub (cC (cN (List.nil_sublist _)))), ?_⟩
 refine zw (by kernel_rfl) ?_
 refine hK12 _ _ ?_
 refine wp_region_lit ?_
 refine qa (v := .int .i64 1) hA rfl rfl rfl (qg rfl rfl (fun w => by kernel_rfl)) ?_
 intro a hA
 refine qa hA rfl rfl rfl (qe rfl) ?_
 intro a hA
 refine qf ?_
 refine hK9 _ _ ?_
 refine jg ?_
 intro K22 hK22
 refine wp_seq_k (fun K23 hK23 => ?_)
 refine wp_region_lit ?_
 refine qa (v := .bool false) hA rfl rfl rfl (qg rfl rfl (fun w => by kernel_rfl)) ?_
 intro a hA
 refine qf ?_
 refine hK23 _ _ ?_
 refine wp_seq_k (fun K24 hK24 => ?_)
 refine wp_cond_false (hA.ev rfl) ?_
 refine wp_exit ?_
 refine hK7 _ _ ?_
 refine wp_seq_k (fun K25 hK25 => ?_)
 refine wp_region_lit ?_
 refine qa hA rfl rfl rfl (qe rfl) ?_
 intro a hA
 refine qa hA rfl rfl rfl (qb rfl) ?_
 intro a hA
 refine qf ?_
 refine hK25 _ _ ?_
 refine wp_ret ?_
 refine hret _ _ ?_
 refine ze (v := .slice (some ⟨g3, 0, none⟩) 1 ca4) hA rfl (.cons (ql rfl) .nil) rfl ?_
 replace hM := hM.sub (cN (cC (.refl _)))
 exact ⟨_, _, rfl, hM⟩
end Go.Proofs.YtoopkbedjbnhhabGreatDoor.G
namespace Go.Proofs.YtoopkbedjbnhhabGreatDoor.G
open Go.RowKit
section
variable {F : Fence} {m : Nat} {P : Program} {w0 w w' : World} {L : List Ck} {l : List (Nat × Value)} {ops : List Oper} {Q : Exit → Act → World → Prop} {a : Act} {n : Nat} {o : Oper} {rest : List Oper} {d : Nat} {v : Value}
def Sd (a : Act) (n : Nat) (l : List (Nat × Value)) : Prop := Sl { a with defers := [] } n l
theorem qeg (hnd : ∀ c, o.op ≠ .defer c) (r : Option Nat) (ρ : Operand → Value) : o.semAt r ρ = execOp ρ o := by
  cases r with
  | none => rfl
  | some k => exact Oper.semAt_some k _ _ hnd
theorem xz (hF : ∀ f, F.fn f) (hA : Sd a n l) (hg : zy l ops o = true) (hdst : o.dst = some d) (hd : Nat.blt d n = true) (hnd : ∀ c, o.op ≠ .defer c) (he : Does P l o w v w')
    (hk : ∀ a', Sd a' n ((d, v) :: l) → a'.defers = a.defers → wpListIn F m P ops.toArray Q rest a' w') : wpListIn F m P ops.toArray Q (o :: rest) a w := by
  unfold wpListIn
  rw [if_pos (show Region.wanted o (yielded ops.toArray a.tmps) = true from hA.wanted hg)]
  refine ⟨fun f _ => hF f, ?_⟩
  rw [qeg hnd, he a.eval (fun x u hx => hA.ev hx), Oper.uponIn_value, hdst]
  exact hk _ (hA.put hd v) rfl
theorem i_set (hF : ∀ f, F.fn f) (hA : Sd a n l) (hg : zy l ops o = true) (hdst : o.dst = none) (hnd : ∀ c, o.op ≠ .defer c) (he : Sets P l o w w')
    (hk : wpListIn F m P ops.toArray Q rest a w') : wpListIn F m P ops.toArray Q (o :: rest) a w := by
  unfold wpListIn
  rw [if_pos (show Region.wanted o (yielded ops.toArray a.tmps) = true from hA.wanted hg)]
  refine ⟨fun f _ => hF f, ?_⟩
  rw [qeg hnd, he a.eval (fun x u hx => hA.ev hx), Oper.uponIn_skip, hdst]
  exact hk
theorem i_loop {c : Code} (I : Nat → Act → World → Prop) (N : Nat) (h0 : I N a w) (round : ∀ k a w, I k a w → c.wpIn F m P (Exit.then (fun a' w' => ∃ j, k = j + 1 ∧ I j a' w') Q) a w) : (Code.loop c).wpIn F m P Q a w := by
  have key : ∀ k a w, I k a w → Code.roundsIn F m P c Q (k + 1) a w := by
    intro k
    induction k with
    | zero =>
      intro a w h
      refine wpIn_mono (round 0 a w h) (fun e a' w' hq => ?_)
      cases e with
      | normal => obtain ⟨j, hj, _⟩ := hq; omega
      | _ => exact hq
    | succ k ih =>
      intro a w h
      refine wpIn_mono (round (k + 1) a w h) (fun e a' w' hq => ?_)
      cases e with
      | normal =>
        obtain ⟨j, hj, hI⟩ := hq
        obtain rfl : k = j := by omega
        exact ih a' w' hI
      | _ => exact hq
  exact wpIn_loop_rounds (N + 1) (key N a w h0)
theorem i_yield (hF : ∀ f, F.fn f) (hd0 : F.depth = none) (hA : Sd a n l) (hg : zy l ops o = true) (hdst : o.dst = some d) (hd : Nat.blt d n = true) (hnd : ∀ c, o.op ≠ .defer c) {k : Nat} {vs : List Value} (he : ∀ ρ : Operand → Value, (∀ x u, ev l x = some u → ρ x = u) → (execOp ρ o).run P w = (Instr.yield k vs.toArray).run P w) {R : Bool → World → Prop} (hy : YieldAt F (m - 1) P k vs.toArray w fun e w' => ∃ b, e = .returned (.bool b) ∧ R b w')
    (hk : ∀ b w', R b w' → ∀ a', Sd a' n ((d, .bool b) :: l) → a'.defers = a.defers → wpListIn F m P ops.toArray Q rest a' w') : wpListIn F m P ops.toArray Q (o :: rest) a w := by
  obtain ⟨fn, tmps, assign, body, h1, h2⟩ := hy
  unfold wpListIn
  rw [if_pos (show Region.wanted o (yielded ops.toArray a.tmps) = true from hA.wanted hg)]
  refine ⟨fun f _ => hF f, ?_⟩
  rw [qeg hnd, he a.eval (fun x u hx => hA.ev hx), h1, Oper.uponIn_round]
  refine ⟨(fun h => by rw [hd0] at h; cases h), h2.mono ?_⟩
  rintro _ w' ⟨b, rfl, h⟩
  rw [hdst]
  exact hk b w' h _ (hA.put hd (.bool b)) rfl
theorem calls_yield {x : Operand} {k : Nat} {args : List Operand} {ts : Array TypeId} {vs : List Value} {dst : Option Tmp} {ty : TypeId} {pos : String} {after : Array Edge} {guard : Option (Nat × Bool)} (hx : ev l x = some (.func (.yield k) #[] #[])) (ha : evs l args = some vs) :
    ∀ ρ : Operand → Value, (∀ x u, ev l x = some u → ρ x = u) → (execOp ρ ⟨dst, .call ⟨.value x, args.toArray, ts⟩, ty, pos, after, guard⟩).run P w = (Instr.yield k vs.toArray).run P w := fun ρ h => by
  have e := evs_map h args vs ha
  simp [execOp, resolve, invoke, h x _ hx, Deferred.ofValue, e]
theorem Sd.sl (h : Sd a n l) (hd : a.defers = []) : Sl a n l := ⟨h.size, h.holds, hd⟩
theorem Sd.ev (h : Sd a n l) {x : Operand} {v : Value} (hx : Go.Proofs.YtoopkbedjbnhhabGreatDoor.G.ev l x = some v) : a.eval x = v := Sl.ev h hx
theorem Sd.keep (h : Sd a n l) (l' : List (Nat × Value)) (hs : AllIn l l') : Sd a n l' := Sl.keep h l' hs
theorem i_walk {f : FuncId} {fn : Func} {c : Code} {args : List Value} {Z : Ending → World → Prop} (hf : P.funcs[f]? = some fn) (hb : fn.body = some c) (hF : F.fn f) (hn : fn.ntmps = n) (hl : Nat.ble args.length n = true) (hs : (args.zipIdx.map fun p => (p.2, p.1)) = l) (hro : F.round = none)
    (h : ∀ Q : Exit → Act → World → Prop, (∀ a w, bodyPost P fn Z .ret a w → Q .ret a w) → (∀ a w, bodyPost P fn Z .ret a w → Q .normal a w) → ∀ a, Sd a n l → a.defers = [] → c.wpIn F m P Q a w) : CallsIn F m P f args.toArray w Z := by
  subst hs
  refine callsIn_of_wp hf hb hF (h _ (fun _ _ h => h) (fun _ _ h => h) _ ?_ rfl) hro
  rw [hn]
  exact Sl.enter (Nat.le_of_ble_eq_true hl)
theorem i_walkM {f : FuncId} {fn : Func} {c : Code} {args : List Value} {Z : Ending → World → Prop} (hf : P.funcs[f]? = some fn) (hb : fn.body = some c) (hF : F.fn f) (hn : fn.ntmps = n) (hl : Nat.ble args.length n = true) (hs : (args.zipIdx.map fun p => (p.2, p.1)) = l) (hro : F.round = none)
    (h : ∀ Q : Exit → Act → World → Prop, (∀ a w, bodyPostM F m P fn Z .ret a w → Q .ret a w) → ∀ a, Sd a n l → a.defers = [] → c.wpIn F m P Q a w) : CallsIn F m P f args.toArray w Z := by
  subst hs
  refine callsIn_of_wp_marks hf hb hF (h _ (fun _ _ h => h) _ ?_ rfl) hro
  rw [hn]
  exact Sl.enter (Nat.le_of_ble_eq_true hl)
theorem yq {x y : Code} (h : ∀ K : Act → World → Prop, (∀ a w, y.wpIn F m P Q a w → K a w) → x.wpIn F m P (Exit.then K Q) a w) : (Code.seq x y).wpIn F m P Q a w := wpIn_seq (h _ (fun _ _ h => h))
theorem i_new (hF : ∀ f, F.fn f) (hA : Sd a n l) (hM : Mg w0 w L) (hg : zy l ops o = true) (hdst : o.dst = some d) (hd : Nat.blt d n = true) (hnd : ∀ c, o.op ≠ .defer c) {vs : List Value} {t : TypeId} (val : Nat → Value) (he : Does P l o w (val w.heap.size) (w.alloc (.cells vs.toArray t))) (ht : t ≠ BY)
    (hk : ∀ g w', Mg w0 w' (.obj g (.cells vs.toArray t) :: L) → w.heap.size ≤ g → g < w'.heap.size → Below w.heap.size w w' → KeepsOthers w w' → ∀ a', Sd a' n ((d, val g) :: l) → a'.defers = a.defers → wpListIn F m P ops.toArray Q rest a' w') : wpListIn F m P ops.toArray Q (o :: rest) a w :=
  xz hF hA hg hdst hd hnd he (hk _ _ (hM.addObj _ (yu ht)) (Nat.le_refl _) (by simp) ((Below.refl _ w).alloc (Nat.le_refl _) _) (KeepsOthers.alloc _ _))
end
theorem vz (g : Nat) : ∀ (cs : List Value) (w : World) (o : Nat), KeepsOthers w (w.setCells g o cs)
  | [], w, o => KeepsOthers.refl w
  | c :: cs, w, o => (KeepsOthers.setCell w ⟨g, o, none⟩ c).trans (vz g cs _ _)
theorem kept_calm {w w' : World} {row : Option Nat} (hg : w.grownBy w' row) (hr : ∀ r, row = some r → ∃ o : Obj, w.heap[r]? = some o ∧ o.isCells = false) : Kept (fun _ => True) w w' := ⟨hg.size, fun b i v _ hc => by
  by_cases e : row = some b
  · obtain ⟨o, ho, hn⟩ := hr b e
    unfold World.cell? at hc
    simp only [ho] at hc
    cases o <;> simp_all [Obj.isCells]
  · exact hg.cell hc (fun k => e k.symm)⟩
theorem Here.kept {w w' : World} {b o : Nat} {cs : List Value} (h : Here w b o cs) (hk : Kept (fun _ => True) w w') : Here w' b o cs := ⟨Nat.lt_of_lt_of_le h.1 hk.1, fun j v hj => hk.2 _ _ _ trivial (h.2 j v hj)⟩
end Go.Proofs.YtoopkbedjbnhhabGreatDoor.G
namespace Go.Proofs.YtoopkbedjbnhhabGreatDoor.G
open Go.RowKit
theorem qjf : Is1 Tryz.prog 50 := ⟨⟨_, Tryz.underlying50, rfl⟩, by kernel_rfl⟩
theorem qeh : IsS Tryz.prog 52 15 := ⟨⟨_, Tryz.underlying52⟩, by kernel_rfl⟩
theorem f_isS_bset : IsS Tryz.prog 67 2 := ⟨⟨_, Tryz.underlying67⟩, by kernel_rfl⟩
theorem yk : Is1 Tryz.prog 32 := ⟨⟨_, Tryz.underlying32, rfl⟩, by kernel_rfl⟩
theorem qjg : Is1 Tryz.prog 46 := ⟨⟨_, Tryz.underlying46, rfl⟩, by kernel_rfl⟩
theorem back_impA {w : World} {so : Option Addr} {k ca : Nat} : Calls Tryz.prog 24 #[.slice so k ca] w fun e w' => e = .returned (.func (.func 40) #[] #[.pointer (some ⟨w.heap.size, 0, none⟩)]) ∧ w' = w.alloc (.cells #[.slice so k ca] 50) := by
  refine zb (l := [(0, .slice so k ca)]) Tryz.func24 rfl Tryz.ntmps24 rfl rfl ?_
  intro Q hret hnorm hP a hA
  refine wp_seq_k (fun K1 hK1 => ?_)
  refine wp_region_lit ?_
  refine qa (v := .pointer (some ⟨w.heap.size, 0, none⟩)) (w' := w.alloc (.cells #[.slice so k ca] 50)) hA rfl rfl rfl (zm (vs := [.slice so k ca]) rfl rfl) fun a hA => ?_
  refine qa hA rfl rfl rfl (qb rfl) fun a hA => ?_
  refine qf (hK1 _ _ (wp_seq_k (fun K2 hK2 => wp_region_lit ?_)))
  refine qa hA rfl rfl rfl (zx rfl) fun a hA => ?_
  refine qa hA rfl rfl rfl (qb rfl) fun a hA => ?_
  refine qf (hK2 _ _ (wp_ret (hret _ _ ?_)))
  exact ze (rs := [.tmp 2]) hA rfl (.cons (ql rfl) .nil) rfl ⟨rfl, rfl⟩
def KpI (Bs go : Nat) (W W' : World) : Prop := W.heap.size ≤ W'.heap.size ∧ ∀ b, b = Bs ∨ b = go → ∀ i v, W.cell? ⟨b, i, none⟩ = some v → W'.cell? ⟨b, i, none⟩ = some v
theorem KpI.refl (Bs go : Nat) (W : World) : KpI Bs go W W := ⟨Nat.le_refl _, fun _ _ _ _ h => h⟩
theorem KpI.trans {Bs go : Nat} {A B C : World} (h : KpI Bs go A B) (k : KpI Bs go B C) : KpI Bs go A C := ⟨Nat.le_trans h.1 k.1, fun b hb i v hv => k.2 b hb i v (h.2 b hb i v hv)⟩
set_option maxRecDepth 100000 in
theorem back_impS {w0 : World} {Bs go : Nat} {ca : Nat} {cs : List Value} (hcs : cs.length = 15) (hBs : w0.cell? ⟨Bs, 0, none⟩ = some (.slice (some ⟨go, 0, none⟩) 1 ca)) (hR : ∀ p u, cs[p]? = some u → w0.cell? ⟨go, p, none⟩ = some u) (n : Nat) :
    SeqStopsK Fence.wide n Tryz.prog 40 #[.pointer (some ⟨Bs, 0, none⟩)] (fun _ : Unit => #[.int .i64 0, .agg cs.toArray]) (KpI Bs go) (fun ys => ys = [()]) (fun _ => True) 1 w0 := by
  intro l J Jx W hW hJ hJx hY h0
  have hF : ∀ f, Fence.wide.fn f := fun _ => trivial
  rw [List.append_toArray]
  refine i_walk (l := [(0, .func (.yield l) #[] #[]), (1, .pointer (some ⟨Bs, 0, none⟩))]) Tryz.func40 rfl trivial rfl rfl rfl rfl ?_
  intro Q hret hnorm a hA hdf
  have hc : W.cell? ⟨Bs, 0, none⟩ = some (.slice (some ⟨go, 0, none⟩) 1 ca) := (hW.cell (p := ⟨Bs, 0, none⟩) (vl hBs)).trans hBs
  have hr : ∀ p u, cs[p]? = some u → W.cell? ⟨go, p, none⟩ = some u := fun p u hp => (hW.cell (p := ⟨go, p, none⟩) (vl (hR p u hp))).trans (hR p u hp)
  refine yq fun K1 hK1 => wpIn_region_lit ?_
  refine xz (v := .slice (some ⟨go, 0, none⟩) 1 ca) hF hA rfl rfl rfl (by intro c h; cases h) (jb rfl (jp qjf hc)) fun a hA h2 => ?_
  refine xz (v := .int .i64 1) hF hA rfl rfl rfl (by intro c h; cases h) (zj Tryz.underlying50 rfl) fun a hA h3 => ?_
  refine xz (v := .int .i64 0) hF hA rfl rfl rfl (by intro c h; cases h) (qg rfl rfl (fun w => by kernel_rfl)) fun a hA h4 => ?_
  refine xz (v := .int .i64 0) hF hA rfl rfl rfl (by intro c h; cases h) (qb rfl) fun a hA h5 => ?_
  refine wpListIn_nil (hK1 _ _ (wpIn_block ?_))
  refine i_loop (fun k a W' => k ≤ 1 ∧ Sd a 19 [(0, .func (.yield l) #[] #[]), (1, .pointer (some ⟨Bs, 0, none⟩)), (3, .int .i64 ((k : Int) - 1))] ∧ a.defers = [] ∧ KpI Bs go W W' ∧ J (List.replicate (1 - k) ()) W') 1 ⟨Nat.le_refl _, hA.keep _ ⟨rfl, rfl, rfl, trivial⟩, by rw [h5, h4, h3, h2, hdf], KpI.refl _ _ _, by simpa using h0⟩ ?_
  rintro k a W' ⟨hk, hA, hd, hKp, hJp⟩
  have hc' := hKp.2 _ (.inl rfl) _ _ hc
  refine yq fun K2 hK2 => yq fun K3 hK3 => wpIn_region_lit ?_
  refine xz (v := .int .i64 ((k : Int) - 1)) hF hA rfl rfl rfl (by intro c h; cases h) (qe rfl) fun a hA h2 => ?_
  refine xz (v := .bool (decide ((0 : Int) ≤ (k : Int) - 1))) hF hA rfl rfl rfl (by intro c h; cases h) (qg rfl rfl xu) fun a hA h3 => ?_
  refine wpListIn_nil (hK3 _ _ ?_)
  refine wpIn_cond_split (t := decide ((0 : Int) ≤ (k : Int) - 1)) (hA.ev rfl) (fun hq => ?_) (fun hq => ?_)
  · have hq' := of_decide_eq_true hq
    obtain rfl : k = 1 := by omega
    refine wpIn_skip (hK2 _ _ (yq fun K4 hK4 => wpIn_block (yq fun K5 hK5 => wpIn_region_lit ?_)))
    refine xz (v := .func (.yield l) #[] #[]) hF hA rfl rfl rfl (by intro c h; cases h) (qe rfl) fun a hA h4 => ?_
    refine xz (v := .int .i64 0) hF hA rfl rfl rfl (by intro c h; cases h) (qe rfl) fun a hA h5 => ?_
    refine xz (v := .slice (some ⟨go, 0, none⟩) 1 ca) hF hA rfl rfl rfl (by intro c h; cases h) (jb rfl (jp qjf hc')) fun a hA h6 => ?_
    refine xz (v := .int .i64 0) hF hA rfl rfl rfl (by intro c h; cases h) (qe rfl) fun a hA h7 => ?_
    refine xz (v := .pointer (some ⟨go, 0, none⟩)) hF hA rfl rfl rfl (by intro c h; cases h) (vb (sz := 15) (k := 0) Tryz.underlying50 (by kernel_rfl) rfl rfl rfl Nat.zero_lt_one) fun a hA h8 => ?_
    refine xz (v := .agg cs.toArray) hF hA rfl rfl rfl (by intro c h; cases h) (jb rfl (vn qeh _ hcs (fun j v hj => by have := hKp.2 _ (.inr rfl) _ _ (hr j v hj); simpa using this))) fun a hA h9 => ?_
    refine i_yield (k := l) (vs := [.int .i64 0, .agg cs.toArray]) (R := fun b W2 => (b = true ∧ J [()] W2 ∧ KpI Bs go W' W2) ∨ (b = false ∧ Jx [()] W2)) hF rfl hA rfl rfl rfl (by intro c h; cases h) (calls_yield rfl rfl) ?_ ?_
    · have := hY [] () W' hJp (by decide)
      obtain ⟨fn, tmps, assign, body, e1, e2⟩ := this
      refine ⟨fn, tmps, assign, body, e1, e2.mono ?_⟩
      rintro e W2 (⟨rfl, h1, h2⟩ | ⟨rfl, h1⟩)
      · exact ⟨true, rfl, .inl ⟨rfl, h1, h2⟩⟩
      · exact ⟨false, rfl, .inr ⟨rfl, h1⟩⟩
    · rintro b W2 hR2 a hA h10
      refine xz (v := .bool (!b)) hF hA rfl rfl rfl (by intro c h; cases h) (qz rfl zg) fun a hA h11 => ?_
      refine wpListIn_nil (hK5 _ _ ?_)
      have hdd : a.defers = [] := by rw [h11, h10, h9, h8, h7, h6, h5, h4, h3, h2, hd]
      rcases hR2 with ⟨rfl, hJ2, hK2'⟩ | ⟨rfl, hJx2⟩
      · refine wpIn_cond_false (hA.ev rfl) (wpIn_skip (hK4 _ _ (wpIn_region_lit ?_)))
        refine xz (v := .int .i64 0) hF hA rfl rfl rfl (by intro c h; cases h) (qe rfl) fun a hA g1 => ?_
        refine xz (v := .int .i64 (-1)) hF hA rfl rfl rfl (by intro c h; cases h) (qg rfl rfl (fun w => by kernel_rfl)) fun a hA g2 => ?_
        refine xz (v := .int .i64 (-1)) hF hA rfl rfl rfl (by intro c h; cases h) (qb rfl) fun a hA g3 => ?_
        refine wpListIn_nil ?_
        exact ⟨0, rfl, Nat.zero_le _, hA.keep _ ⟨rfl, rfl, rfl, trivial⟩, by rw [g3, g2, g1, hdd], hKp.trans hK2', hJ2⟩
      · refine wpIn_cond_true (hA.ev rfl) (wpIn_ret ?_)
        refine hret _ _ ?_
        exact ze (rs := []) (vs := []) (v := .tuple #[]) (hA.sl hdd) rfl .nil rfl ⟨⟨_, rfl⟩, .inr ⟨_, trivial, hJx2⟩⟩
  · have hq' := of_decide_eq_false hq
    refine wpIn_exit ?_
    obtain rfl : k = 0 := by omega
    refine hnorm _ _ ?_
    exact ze (rs := []) (vs := []) (v := .tuple #[]) (hA.sl (by rw [h3, h2, hd])) rfl .nil rfl ⟨⟨_, rfl⟩, .inl ⟨_, rfl, hJp⟩⟩
end Go.Proofs.YtoopkbedjbnhhabGreatDoor.G
namespace Go.Proofs.YtoopkbedjbnhhabGreatDoor.G
open Go.RowKit
section
variable {F : Fence} {m : Nat} {P : Program} {w0 w w' : World} {L : List Ck} {l : List (Nat × Value)} {ops : List Oper} {Q : Exit → Act → World → Prop} {a : Act} {n : Nat} {o : Oper} {rest : List Oper} {d : Nat} {v : Value}
theorem qge (hF : ∀ f, F.fn f) (hd0 : F.depth = none) (hA : Sd a n l) (hg : zy l ops o = true) (hdst : o.dst = some d) (hd : Nat.blt d n = true) (hnd : ∀ c, o.op ≠ .defer c) {f : FuncId} {vs : List Value} (he : Enters P l o w f vs) {R : Value → World → Prop} (hc : CallsIn F (m - 1) P f vs.toArray w fun e w' => ∃ v, e = .returned v ∧ R v w')
    (hk : ∀ v w', R v w' → ∀ a', Sd a' n ((d, v) :: l) → a'.defers = a.defers → wpListIn F m P ops.toArray Q rest a' w') : wpListIn F m P ops.toArray Q (o :: rest) a w := by
  unfold wpListIn
  rw [if_pos (show Region.wanted o (yielded ops.toArray a.tmps) = true from hA.wanted hg)]
  refine ⟨fun f _ => hF f, ?_⟩
  rw [qeg hnd, he a.eval (fun x u hx => hA.ev hx), Oper.uponIn_enter]
  refine ⟨(fun h => by rw [hd0] at h; cases h), hc.mono ?_⟩
  rintro _ w' ⟨v, rfl, h⟩
  rw [hdst]
  exact hk v w' h _ (hA.put hd v) rfl
theorem ul {i : Nat} {K : Act → World → Prop} (hF : ∀ f, F.fn f) (hro : F.round = none) (hA : Sd a n l) (hi : ops[i]? = some o) (hg : zy l ops o = true) (hdst : o.dst = some d) (hd : Nat.blt d n = true) (hnd : ∀ c, o.op ≠ .defer c) (he : Does P l o w v w')
    (hk : ∀ a', Sd a' n ((d, v) :: l) → a'.defers = a.defers → K a' w') : wpOpIn F m P ops.toArray Q i K a w := by
  unfold wpOpIn
  simp only [List.getElem?_toArray, hi]
  rw [if_pos (show Region.wanted o (yielded ops.toArray a.tmps) = true from hA.wanted hg)]
  unfold Oper.wpIn
  refine ⟨fun f _ => hF f, ?_⟩
  rw [qeg hnd, he a.eval (fun x u hx => hA.ev hx), Oper.uponIn_value, hdst]
  exact hk _ (hA.put hd v) rfl
theorem io_callX {i : Nat} {K : Act → World → Prop} (hF : ∀ f, F.fn f) (hro : F.round = none) (hd0 : F.depth = none) (hA : Sd a n l) (hi : ops[i]? = some o) (hg : zy l ops o = true) (hdst : o.dst = some d) (hd : Nat.blt d n = true) (hnd : ∀ c, o.op ≠ .defer c) {f : FuncId} {vs : List Value} (he : Enters P l o w f vs) {R : Value → World → Prop} (hc : CallsIn F (m - 1) P f vs.toArray w fun e w' => ∃ v, e = .returned v ∧ R v w')
    (hk : ∀ v w', R v w' → ∀ a', Sd a' n ((d, v) :: l) → a'.defers = a.defers → K a' w') : wpOpIn F m P ops.toArray Q i K a w := by
  unfold wpOpIn
  simp only [List.getElem?_toArray, hi]
  rw [if_pos (show Region.wanted o (yielded ops.toArray a.tmps) = true from hA.wanted hg)]
  unfold Oper.wpIn
  refine ⟨fun f _ => hF f, ?_⟩
  rw [qeg hnd, he a.eval (fun x u hx => hA.ev hx), Oper.uponIn_enter]
  refine ⟨(fun h => by rw [hd0] at h; cases h), hc.mono ?_⟩
  rintro _ w' ⟨v, rfl, h⟩
  rw [hdst]
  exact hk v w' h _ (hA.put hd v) rfl
end
noncomputable def vw : List Oper := match Tryz.f13.body with | some (.seq _ (.seq _ (.seq _ (.seq _ (.seq _ (.seq (.region _ o _) _)))))) => o.toList | _ => []
set_option maxRecDepth 100000 in
theorem tail_any {Q : Exit → Act → World → Prop} {Wd : World} {gF gE gq cq : Nat} {ds : List Deferred} {RR : Nat → Nat → World → Prop} (hcF : Wd.cell? ⟨gF, 0, none⟩ = some (.slice (some ⟨gq, 0, none⟩) 1 cq)) (hcE : Wd.cell? ⟨gE, 0, none⟩ = some (.int .i64 0)) (hRE : ∀ gr cr W5, RR gr cr W5 → W5.cell? ⟨gE, 0, none⟩ = some (.int .i64 0))
    (hcall : CallsIn Fence.wide 4 Tryz.prog 26 [Value.slice (some ⟨gq, 0, none⟩) 1 cq].toArray Wd fun e w' => ∃ v, e = .returned v ∧ ∃ gr cr, v = .slice (some ⟨gr, 0, none⟩) 1 cr ∧ RR gr cr w')
    (hQ : ∀ gr cr W5, RR gr cr W5 → ∀ a, Sd a 42 [(4, .slice (some ⟨gr, 0, none⟩) 1 cr), (5, .int .i64 0)] → a.defers = ds → Q .normal a W5) : ∀ a, Sd a 42 [(9, .pointer (some ⟨gF, 0, none⟩)), (10, .pointer (some ⟨gE, 0, none⟩))] → a.defers = ds → wpAnyIn Fence.wide 5 Tryz.prog .any vw.toArray Q 6 #[false, false, false, false, false, false] a Wd := by
  have hF : ∀ f, Fence.wide.fn f := fun _ => trivial
  have s42 : ∀ (gr cr : Nat) (W5 : World), RR gr cr W5 → ∀ a, Sd a 42 [(9, .pointer (some ⟨gF, 0, none⟩)), (10, .pointer (some ⟨gE, 0, none⟩)), (38, .pointer (some ⟨gF, 0, none⟩)), (39, .slice (some ⟨gq, 0, none⟩) 1 cq), (40, .slice (some ⟨gr, 0, none⟩) 1 cr), (4, .slice (some ⟨gr, 0, none⟩) 1 cr), (41, .int .i64 0), (5, .int .i64 0)] → a.defers = ds → wpAnyIn Fence.wide 5 Tryz.prog .any vw.toArray Q 0 #[true, true, true, true, true, true] a W5 := by
    intro gr cr W5 hRR a hA hd
    exact wpAnyIn_done (by kernel_rfl) (hQ gr cr W5 hRR a (hA.keep _ ⟨rfl, rfl, trivial⟩) hd) _
  have s41 : ∀ (gr cr : Nat) (W5 : World), RR gr cr W5 → ∀ a, Sd a 42 [(9, .pointer (some ⟨gF, 0, none⟩)), (10, .pointer (some ⟨gE, 0, none⟩)), (38, .pointer (some ⟨gF, 0, none⟩)), (39, .slice (some ⟨gq, 0, none⟩) 1 cq), (40, .slice (some ⟨gr, 0, none⟩) 1 cr), (4, .slice (some ⟨gr, 0, none⟩) 1 cr), (41, .int .i64 0)] → a.defers = ds → wpAnyIn Fence.wide 5 Tryz.prog .any vw.toArray Q 1 #[true, true, true, true, true, false] a W5 := by
    intro gr cr W5 hRR a hA hd
    refine wpAnyIn_all (rs := [5]) (by kernel_rfl) (by simp) ?_
    intro i hi
    simp only [List.mem_cons, List.not_mem_nil, or_false] at hi
    subst hi
    exact ul hF rfl hA rfl rfl rfl rfl (by intro c h; cases h) (qb rfl) (fun a hA h2 => s42 gr cr W5 hRR a (hA.keep _ (by repeat' constructor)) (h2.trans hd))
  have s40 : ∀ (gr cr : Nat) (W5 : World), RR gr cr W5 → ∀ a, Sd a 42 [(9, .pointer (some ⟨gF, 0, none⟩)), (10, .pointer (some ⟨gE, 0, none⟩)), (38, .pointer (some ⟨gF, 0, none⟩)), (39, .slice (some ⟨gq, 0, none⟩) 1 cq), (40, .slice (some ⟨gr, 0, none⟩) 1 cr), (4, .slice (some ⟨gr, 0, none⟩) 1 cr)] → a.defers = ds → wpAnyIn Fence.wide 5 Tryz.prog .any vw.toArray Q 2 #[true, true, true, false, true, false] a W5 := by
    intro gr cr W5 hRR a hA hd
    refine wpAnyIn_all (rs := [3]) (by kernel_rfl) (by simp) ?_
    intro i hi
    simp only [List.mem_cons, List.not_mem_nil, or_false] at hi
    subst hi
    exact ul (v := .int .i64 0) hF rfl hA rfl rfl rfl rfl (by intro c h; cases h) (jb rfl (jp yk (hRE _ _ _ hRR))) (fun a hA h2 => s41 gr cr W5 hRR a (hA.keep _ (by repeat' constructor)) (h2.trans hd))
  have s31 : ∀ (gr cr : Nat) (W5 : World), RR gr cr W5 → ∀ a, Sd a 42 [(9, .pointer (some ⟨gF, 0, none⟩)), (10, .pointer (some ⟨gE, 0, none⟩)), (38, .pointer (some ⟨gF, 0, none⟩)), (39, .slice (some ⟨gq, 0, none⟩) 1 cq), (40, .slice (some ⟨gr, 0, none⟩) 1 cr), (41, .int .i64 0)] → a.defers = ds → wpAnyIn Fence.wide 5 Tryz.prog .any vw.toArray Q 2 #[true, true, true, true, false, false] a W5 := by
    intro gr cr W5 hRR a hA hd
    refine wpAnyIn_all (rs := [4]) (by kernel_rfl) (by simp) ?_
    intro i hi
    simp only [List.mem_cons, List.not_mem_nil, or_false] at hi
    subst hi
    exact ul hF rfl hA rfl rfl rfl rfl (by intro c h; cases h) (qb rfl) (fun a hA h2 => s41 gr cr W5 hRR a (hA.keep _ (by repeat' constructor)) (h2.trans hd))
  have s30 : ∀ (gr cr : Nat) (W5 : World), RR gr cr W5 → ∀ a, Sd a 42 [(9, .pointer (some ⟨gF, 0, none⟩)), (10, .pointer (some ⟨gE, 0, none⟩)), (38, .pointer (some ⟨gF, 0, none⟩)), (39, .slice (some ⟨gq, 0, none⟩) 1 cq), (40, .slice (some ⟨gr, 0, none⟩) 1 cr)] → a.defers = ds → wpAnyIn Fence.wide 5 Tryz.prog .any vw.toArray Q 3 #[true, true, true, false, false, false] a W5 := by
    intro gr cr W5 hRR a hA hd
    refine wpAnyIn_all (rs := [3, 4]) (by kernel_rfl) (by simp) ?_
    intro i hi
    simp only [List.mem_cons, List.not_mem_nil, or_false] at hi
    rcases hi with rfl | rfl
    · exact ul (v := .int .i64 0) hF rfl hA rfl rfl rfl rfl (by intro c h; cases h) (jb rfl (jp yk (hRE _ _ _ hRR))) (fun a hA h2 => s31 gr cr W5 hRR a (hA.keep _ (by repeat' constructor)) (h2.trans hd))
    · exact ul hF rfl hA rfl rfl rfl rfl (by intro c h; cases h) (qb rfl) (fun a hA h2 => s40 gr cr W5 hRR a (hA.keep _ (by repeat' constructor)) (h2.trans hd))
  have s21 : ∀ a, Sd a 42 [(9, .pointer (some ⟨gF, 0, none⟩)), (10, .pointer (some ⟨gE, 0, none⟩)), (38, .pointer (some ⟨gF, 0, none⟩)), (39, .slice (some ⟨gq, 0, none⟩) 1 cq), (41, .int .i64 0)] → a.defers = ds → wpAnyIn Fence.wide 5 Tryz.prog .any vw.toArray Q 3 #[true, true, false, true, false, false] a Wd := by
    intro a hA hd
    refine wpAnyIn_all (rs := [2]) (by kernel_rfl) (by simp) ?_
    intro i hi
    simp only [List.mem_cons, List.not_mem_nil, or_false] at hi
    subst hi
    refine io_callX hF rfl rfl hA rfl rfl rfl rfl (by intro c h; cases h) (qh rfl rfl (fun w => by kernel_rfl)) (R := fun v W5 => ∃ gr cr, v = .slice (some ⟨gr, 0, none⟩) 1 cr ∧ RR gr cr W5) hcall ?_
    rintro _ W5 ⟨gr, cr, rfl, hRR⟩ a hA h2
    exact s31 gr cr W5 hRR a (hA.keep _ (by repeat' constructor)) (h2.trans hd)
  have s20 : ∀ a, Sd a 42 [(9, .pointer (some ⟨gF, 0, none⟩)), (10, .pointer (some ⟨gE, 0, none⟩)), (38, .pointer (some ⟨gF, 0, none⟩)), (39, .slice (some ⟨gq, 0, none⟩) 1 cq)] → a.defers = ds → wpAnyIn Fence.wide 5 Tryz.prog .any vw.toArray Q 4 #[true, true, false, false, false, false] a Wd := by
    intro a hA hd
    refine wpAnyIn_all (rs := [2, 3]) (by kernel_rfl) (by simp) ?_
    intro i hi
    simp only [List.mem_cons, List.not_mem_nil, or_false] at hi
    rcases hi with rfl | rfl
    · refine io_callX hF rfl rfl hA rfl rfl rfl rfl (by intro c h; cases h) (qh rfl rfl (fun w => by kernel_rfl)) (R := fun v W5 => ∃ gr cr, v = .slice (some ⟨gr, 0, none⟩) 1 cr ∧ RR gr cr W5) hcall ?_
      rintro _ W5 ⟨gr, cr, rfl, hRR⟩ a hA h2
      exact s30 gr cr W5 hRR a (hA.keep _ ⟨rfl, rfl, rfl, rfl, rfl, trivial⟩) (h2.trans hd)
    · exact ul (v := .int .i64 0) hF rfl hA rfl rfl rfl rfl (by intro c h; cases h) (jb rfl (jp yk hcE)) (fun a hA h2 => s21 a (hA.keep _ ⟨rfl, rfl, rfl, rfl, rfl, trivial⟩) (h2.trans hd))
  have s11 : ∀ a, Sd a 42 [(9, .pointer (some ⟨gF, 0, none⟩)), (10, .pointer (some ⟨gE, 0, none⟩)), (38, .pointer (some ⟨gF, 0, none⟩)), (41, .int .i64 0)] → a.defers = ds → wpAnyIn Fence.wide 5 Tryz.prog .any vw.toArray Q 4 #[true, false, false, true, false, false] a Wd := by
    intro a hA hd
    refine wpAnyIn_all (rs := [1]) (by kernel_rfl) (by simp) ?_
    intro i hi
    simp only [List.mem_cons, List.not_mem_nil, or_false] at hi
    subst hi
    exact ul (v := .slice (some ⟨gq, 0, none⟩) 1 cq) hF rfl hA rfl rfl rfl rfl (by intro c h; cases h) (jb rfl (jp qjg hcF)) (fun a hA h2 => s21 a (hA.keep _ ⟨rfl, rfl, rfl, rfl, rfl, trivial⟩) (h2.trans hd))
  have s10 : ∀ a, Sd a 42 [(9, .pointer (some ⟨gF, 0, none⟩)), (10, .pointer (some ⟨gE, 0, none⟩)), (38, .pointer (some ⟨gF, 0, none⟩))] → a.defers = ds → wpAnyIn Fence.wide 5 Tryz.prog .any vw.toArray Q 5 #[true, false, false, false, false, false] a Wd := by
    intro a hA hd
    refine wpAnyIn_all (rs := [1, 3]) (by kernel_rfl) (by simp) ?_
    intro i hi
    simp only [List.mem_cons, List.not_mem_nil, or_false] at hi
    rcases hi with rfl | rfl
    · exact ul (v := .slice (some ⟨gq, 0, none⟩) 1 cq) hF rfl hA rfl rfl rfl rfl (by intro c h; cases h) (jb rfl (jp qjg hcF)) (fun a hA h2 => s20 a (hA.keep _ ⟨rfl, rfl, rfl, rfl, trivial⟩) (h2.trans hd))
    · exact ul (v := .int .i64 0) hF rfl hA rfl rfl rfl rfl (by intro c h; cases h) (jb rfl (jp yk hcE)) (fun a hA h2 => s11 a (hA.keep _ ⟨rfl, rfl, rfl, rfl, trivial⟩) (h2.trans hd))
  have s01 : ∀ a, Sd a 42 [(9, .pointer (some ⟨gF, 0, none⟩)), (10, .pointer (some ⟨gE, 0, none⟩)), (41, .int .i64 0)] → a.defers = ds → wpAnyIn Fence.wide 5 Tryz.prog .any vw.toArray Q 5 #[false, false, false, true, false, false] a Wd := by
    intro a hA hd
    refine wpAnyIn_all (rs := [0]) (by kernel_rfl) (by simp) ?_
    intro i hi
    simp only [List.mem_cons, List.not_mem_nil, or_false] at hi
    subst hi
    exact ul (v := .pointer (some ⟨gF, 0, none⟩)) hF rfl hA rfl rfl rfl rfl (by intro c h; cases h) (qk (show FieldAt Tryz.prog 67 0 0 from ⟨_, _, Tryz.underlying67, rfl, rfl, by kernel_rfl⟩) rfl rfl) (fun a hA h2 => s11 a (hA.keep _ ⟨rfl, rfl, rfl, rfl, trivial⟩) (h2.trans hd))
  have s00 : ∀ a, Sd a 42 [(9, .pointer (some ⟨gF, 0, none⟩)), (10, .pointer (some ⟨gE, 0, none⟩))] → a.defers = ds → wpAnyIn Fence.wide 5 Tryz.prog .any vw.toArray Q 6 #[false, false, false, false, false, false] a Wd := by
    intro a hA hd
    refine wpAnyIn_all (rs := [0, 3]) (by kernel_rfl) (by simp) ?_
    intro i hi
    simp only [List.mem_cons, List.not_mem_nil, or_false] at hi
    rcases hi with rfl | rfl
    · exact ul (v := .pointer (some ⟨gF, 0, none⟩)) hF rfl hA rfl rfl rfl rfl (by intro c h; cases h) (qk (show FieldAt Tryz.prog 67 0 0 from ⟨_, _, Tryz.underlying67, rfl, rfl, by kernel_rfl⟩) rfl rfl) (fun a hA h2 => s10 a (hA.keep _ ⟨rfl, rfl, rfl, trivial⟩) (h2.trans hd))
    · exact ul (v := .int .i64 0) hF rfl hA rfl rfl rfl rfl (by intro c h; cases h) (jb rfl (jp yk hcE)) (fun a hA h2 => s01 a (hA.keep _ ⟨rfl, rfl, rfl, trivial⟩) (h2.trans hd))
  exact s00
theorem Mg.calmJ {w0 w w' : World} {L : List Ck} {row : Option Nat} (h : Mg w0 w L) (hg : w.grownBy w' row) (hr : ∀ r, row = some r → w0.heap.size ≤ r ∧ ∃ o : Obj, w.heap[r]? = some o ∧ o.isCells = false) (hL : ∀ c ∈ L, (∃ g vs t, c = .obj g (.cells vs t)) ∨ ∃ e sz v n xs, c = .row e sz v n xs) : Mg w0 w' L := by
  have key : ∀ (g : Nat) (o : Obj), w.heap[g]? = some o → o.isCells = true → w'.heap[g]? = some o := fun g o ho hc => (hg.block g (Array.getElem?_eq_some_iff.1 ho).1 (fun e => by
    obtain ⟨_, o2, h2, h3⟩ := hr g e.symm
    rw [ho] at h2
    cases h2
    rw [hc] at h3
    cases h3)).trans ho
  refine ⟨h.bel.grown hg h.bel.size (fun k e => (hr k e).1), fun c hc => ?_, h.dis⟩
  rcases hL c hc with ⟨g, vs, t, rfl⟩ | ⟨e, sz, v, n, xs, rfl⟩
  · have h2 := h.all _ hc
    exact ⟨h2.1, key _ _ h2.2 rfl⟩
  · have h2 : w.ownsRow w0.heap.size e sz v n xs := h.all _ hc
    refine ⟨h2.1, ?_⟩
    rcases h2.2 with ⟨e1, e2⟩ | ⟨g, cap, cur, e1, hB, hc2, h3⟩
    · exact .inl ⟨e1, e2⟩
    · exact .inr ⟨g, cap, cur, e1, hB, key _ _ hc2 rfl, h3⟩

def NmI (w : World) (gF gE : Nat) (so : Option Addr) (ca gm : Nat) (x y p : ByteArray) : List Unit → World → Prop
  | [], W => Mg w W [.obj gE (.cells #[.int .i64 0] 32), .obj gF (.cells #[.slice so 1 ca, .map (some gm)] 67)]
  | _ :: _, W => ∃ gq cq g2, Mg w W [.obj gE (.cells #[.int .i64 0] 32), .obj gF (.cells #[.slice (some ⟨gq, 0, none⟩) 1 cq, .map (some g2)] 67), .row 54 2 (.slice (some ⟨gq, 0, none⟩) 1 cq) 1 [.string (p ++ x), .string y]]
theorem nmI_own (w : World) (gF gE : Nat) (so : Option Addr) (ca gm : Nat) (x y p : ByteArray) (B : Nat) (hB : w.heap.size ≤ B) : OwnFrom B (NmI w gF gE so ca gm x y p) := by
  rintro pre W W' row h hg hrow
  cases pre with
  | nil =>
    refine Mg.calmJ h hg (fun r e => ⟨Nat.le_trans hB (hrow r e).1, (hrow r e).2⟩) (fun c hc => ?_)
    simp only [List.mem_cons, List.not_mem_nil, or_false] at hc
    rcases hc with rfl | rfl <;> exact .inl ⟨_, _, _, rfl⟩
  | cons u us =>
    obtain ⟨gq, cq, g2, h⟩ := h
    refine ⟨gq, cq, g2, Mg.calmJ h hg (fun r e => ⟨Nat.le_trans hB (hrow r e).1, (hrow r e).2⟩) (fun c hc => ?_)⟩
    simp only [List.mem_cons, List.not_mem_nil, or_false] at hc
    rcases hc with rfl | rfl | rfl
    · exact .inl ⟨_, _, _, rfl⟩
    · exact .inl ⟨_, _, _, rfl⟩
    · exact .inr ⟨_, _, _, _, _, rfl⟩
set_option maxRecDepth 100000 in
theorem names1_any {w : World} {so sf sn : Option Addr} {ca cf cn : Nat} {x y p : ByteArray} (hR : Rc w so [.string x, .string y]) (hFs : Rc w sf (ja 0 (.slice none 0 0) (.slice none 0 0))) (hN : Rc w sn [.string p]) (hp : p.size + x.size ≤ 140737488355327) (hpx : (p ++ x).size ≤ 281474976710656) (hy : y.size ≤ 281474976710656) : Calls Tryz.prog 13 #[.agg (ja 3 (.slice sf 1 cf) (.slice sn 1 cn)).toArray, .slice so 1 ca] w fun e w' => ∃ g c2, e = .returned (.tuple #[.slice (some ⟨g, 0, none⟩) 1 c2, .int .i64 0]) ∧ Mg w w' [.row 54 2 (.slice (some ⟨g, 0, none⟩) 1 c2) 1 [.string (p ++ x), .string y]] := by
  refine (callsIn_wide (n := 5)).1 ?_
  have hF : ∀ f, Fence.wide.fn f := fun _ => trivial
  refine i_walkM (l := [(0, .agg (ja 3 (.slice sf 1 cf) (.slice sn 1 cn)).toArray), (1, .slice so 1 ca)]) Tryz.func13 rfl trivial rfl rfl rfl rfl ?_
  intro Q hret a hA hdf
  have hM : Mg w w [] := Mg.start w
  refine yq fun K1 hK1 => wpIn_region_lit ?_
  refine i_new (vs := ja 3 (.slice sf 1 cf) (.slice sn 1 cn)) (t := 52) hF hA hM rfl rfl rfl (by intro c h; cases h) (fun g => .pointer (some ⟨g, 0, none⟩)) (zm rfl rfl) (by decide) ?_
  intro g2 W1 hM _ _ _ _ a hA h1
  refine xz hF hA rfl rfl rfl (by intro c h; cases h) (qb rfl) fun a hA h2 => ?_
  refine xz hF hA rfl rfl rfl (by intro c h; cases h) (qb rfl) fun a hA h3 => ?_
  refine wpListIn_nil (hK1 _ _ (yq fun K2 hK2 => wpIn_region_lit ?_))
  refine xz (v := .agg (ja 3 (.slice sf 1 cf) (.slice sn 1 cn)).toArray) hF hA rfl rfl rfl (by intro c h; cases h) (jf hM qeh rfl 0 rfl (cs := ja 3 (.slice sf 1 cf) (.slice sn 1 cn)) rfl rfl) fun a hA h4 => ?_
  refine qge (R := fun v W => ∃ g' c', v = .tuple #[.slice (some ⟨g', 0, none⟩) 1 c', .agg (ja 0 (.slice none 0 0) (.slice none 0 0)).toArray, .bool true] ∧ Mg W1 W [.row 52 15 (.slice (some ⟨g', 0, none⟩) 1 c') 1 (ja 3 (.slice sf 1 cf) (.slice sn 1 cn))]) hF rfl hA rfl rfl rfl (by intro c h; cases h) (qh rfl rfl (fun w => by kernel_rfl)) (callsIn_wide.2 ((levels1_any (hFs.below hM.bel)).mono (fun e w' h => by obtain ⟨g', c', h1, h2⟩ := h; exact ⟨_, h1, g', c', rfl, h2⟩))) ?_
  rintro _ W2 ⟨go, co, rfl, hM2⟩ a hA h5
  have hgo := (Ck.lt (hM2.has 0 rfl) go rfl).2
  replace hM : Mg w W2 [.row 52 15 (.slice (some ⟨go, 0, none⟩) 1 co) 1 (ja 3 (.slice sf 1 cf) (.slice sn 1 cn)), .obj g2 (.cells (ja 3 (.slice sf 1 cf) (.slice sn 1 cn)).toArray 52)] := hM.both hM2 (qr (by simp) (qp qw)) (qr (by simp) (qp qw))
  refine xz hF hA rfl rfl rfl (by intro c h; cases h) (qe rfl) fun a hA h6 => ?_
  refine xz hF hA rfl rfl rfl (by intro c h; cases h) (qn (vs := [.slice (some ⟨go, 0, none⟩) 1 co, .agg (ja 0 (.slice none 0 0) (.slice none 0 0)).toArray, .bool true]) rfl rfl) fun a hA h7 => ?_
  refine xz hF hA rfl rfl rfl (by intro c h; cases h) (qn (vs := [.slice (some ⟨go, 0, none⟩) 1 co, .agg (ja 0 (.slice none 0 0) (.slice none 0 0)).toArray, .bool true]) rfl rfl) fun a hA h8 => ?_
  refine xz hF hA rfl rfl rfl (by intro c h; cases h) (qn (vs := [.slice (some ⟨go, 0, none⟩) 1 co, .agg (ja 0 (.slice none 0 0) (.slice none 0 0)).toArray, .bool true]) rfl rfl) fun a hA h9 => ?_
  refine i_new (vs := ja 0 (.slice none 0 0) (.slice none 0 0)) (t := 52) hF hA hM rfl rfl rfl (by intro c h; cases h) (fun g => .pointer (some ⟨g, 0, none⟩)) (zd (z := .agg (ja 0 (.slice none 0 0) (.slice none 0 0)).toArray) (by kernel_rfl) rfl) (by decide) ?_
  intro g7 W3 hM hg7 _ _ _ a hA h10
  refine xz hF hA rfl rfl rfl (by intro c h; cases h) (qb rfl) fun a hA h11 => ?_
  refine i_set (w' := W3.setCells g7 0 [.int .i64 0, .slice none 0 0, .int .i64 0, .int .i64 0, .bool false, .slice none 0 0, .slice none 0 0, .bool false, .slice none 0 0, .slice none 0 0, .string ⟨#[]⟩, .slice none 0 0, .slice none 0 0, .slice none 0 0, .slice none 0 0]) hF hA rfl rfl (by intro c h; cases h) (zh rfl rfl rfl (by kernel_rfl) hM 0 rfl rfl rfl) ?_
  have hM' : Mg w (W3.setCells g7 0 [.int .i64 0, .slice none 0 0, .int .i64 0, .int .i64 0, .bool false, .slice none 0 0, .slice none 0 0, .bool false, .slice none 0 0, .slice none 0 0, .string ⟨#[]⟩, .slice none 0 0, .slice none 0 0, .slice none 0 0, .slice none 0 0]) [.obj g7 (.cells (ja 0 (.slice none 0 0) (.slice none 0 0)).toArray 52), .row 52 15 (.slice (some ⟨go, 0, none⟩) 1 co) 1 (ja 3 (.slice sf 1 cf) (.slice sn 1 cn)), .obj g2 (.cells (ja 3 (.slice sf 1 cf) (.slice sn 1 cn)).toArray 52)] := Mg.puts [.int .i64 0, .slice none 0 0, .int .i64 0, .int .i64 0, .bool false, .slice none 0 0, .slice none 0 0, .bool false, .slice none 0 0, .slice none 0 0, .string ⟨#[]⟩, .slice none 0 0, .slice none 0 0, .slice none 0 0, .slice none 0 0] W3 _ [.int .i64 0, .slice none 0 0, .int .i64 0, .int .i64 0, .bool false, .slice none 0 0, .slice none 0 0, .bool false, .slice none 0 0, .slice none 0 0, .string ⟨#[]⟩, .slice none 0 0, .slice none 0 0, .slice none 0 0, .slice none 0 0] 0 hM 0 rfl
  have hz' := (vz g7 [.int .i64 0, .slice none 0 0, .int .i64 0, .int .i64 0, .bool false, .slice none 0 0, .slice none 0 0, .bool false, .slice none 0 0, .slice none 0 0, .string ⟨#[]⟩, .slice none 0 0, .slice none 0 0, .slice none 0 0, .slice none 0 0] W3 0).size
  revert hM' hz'
  generalize W3.setCells g7 0 [.int .i64 0, .slice none 0 0, .int .i64 0, .int .i64 0, .bool false, .slice none 0 0, .slice none 0 0, .bool false, .slice none 0 0, .slice none 0 0, .string ⟨#[]⟩, .slice none 0 0, .slice none 0 0, .slice none 0 0, .slice none 0 0] = W4
  intro hM' hzW4
  clear hM
  have hM := hM'
  clear hM'
  refine xz hF hA rfl rfl rfl (by intro c h; cases h) (qb rfl) fun a hA h12 => ?_
  refine wpListIn_nil (hK2 _ _ (yq fun K3 hK3 => yq fun K4 hK4 => wpIn_region_lit ?_))
  refine xz hF hA rfl rfl rfl (by intro c h; cases h) (qe rfl) fun a hA h13 => ?_
  refine xz (v := .bool false) hF hA rfl rfl rfl (by intro c h; cases h) (qz rfl zg) fun a hA h14 => ?_
  refine wpListIn_nil (hK4 _ _ (wpIn_cond_false (hA.ev rfl) (wpIn_skip (hK3 _ _ (yq fun K5 hK5 => wpIn_region_lit ?_)))))
  refine xz hF hA rfl rfl rfl (by intro c h; cases h) (qe rfl) fun a hA h15 => ?_
  refine qge (R := fun v W => ∃ g, v = .tuple #[.agg #[.slice so 1 ca, .map (some g)], .int .i64 0] ∧ Mg W4 W [.obj g (qde [⟨x, .int .i64 0, 0⟩] 1)]) hF rfl hA rfl rfl rfl (by intro c h; cases h) (qh rfl rfl (fun w => by kernel_rfl)) (callsIn_wide.2 ((qbd (hR.below hM.bel)).mono (fun e w' h => by obtain ⟨g, h1, h2⟩ := h; exact ⟨_, h1, g, rfl, h2⟩))) ?_
  rintro _ W5 ⟨gm, rfl, hM5⟩ a hA h16
  have hs5 := hM5.bel.size
  replace hM := hM.call hM5.bel
  refine xz hF hA rfl rfl rfl (by intro c h; cases h) (qe rfl) fun a hA h17 => ?_
  refine xz hF hA rfl rfl rfl (by intro c h; cases h) (qn (vs := [.agg #[.slice so 1 ca, .map (some gm)], .int .i64 0]) rfl rfl) fun a hA h18 => ?_
  refine xz hF hA rfl rfl rfl (by intro c h; cases h) (qn (vs := [.agg #[.slice so 1 ca, .map (some gm)], .int .i64 0]) rfl rfl) fun a hA h19 => ?_
  refine i_new (vs := [.slice none 0 0, .map none]) (t := 67) hF hA hM rfl rfl rfl (by intro c h; cases h) (fun g => .pointer (some ⟨g, 0, none⟩)) (zd (z := .agg #[.slice none 0 0, .map none]) (by kernel_rfl) rfl) (by decide) ?_
  intro gF W6 hM hgF hgF' _ _ a hA h20
  refine i_new (vs := [.int .i64 0]) (t := 32) hF hA hM rfl rfl rfl (by intro c h; cases h) (fun g => .pointer (some ⟨g, 0, none⟩)) (zd (z := .int .i64 0) (by kernel_rfl) rfl) (by decide) ?_
  intro gE W7 hM hgE hgE' _ _ a hA h21
  replace hM : Mg w W7 [.obj gE (.cells #[.int .i64 0] 32), .obj gF (.cells #[.slice none 0 0, .map none] 67), .row 52 15 (.slice (some ⟨go, 0, none⟩) 1 co) 1 (ja 3 (.slice sf 1 cf) (.slice sn 1 cn))] := hM.sub (cC (cC (cN (cC (List.nil_sublist _)))))
  refine i_set (w' := W7.setCells gF 0 [.slice so 1 ca, .map (some gm)]) hF hA rfl rfl (by intro c h; cases h) (zh rfl rfl rfl (by kernel_rfl) hM 1 rfl rfl rfl) ?_
  have hM' : Mg w (W7.setCells gF 0 [.slice so 1 ca, .map (some gm)]) [.obj gE (.cells #[.int .i64 0] 32), .obj gF (.cells #[.slice so 1 ca, .map (some gm)] 67), .row 52 15 (.slice (some ⟨go, 0, none⟩) 1 co) 1 (ja 3 (.slice sf 1 cf) (.slice sn 1 cn))] := Mg.puts [.slice so 1 ca, .map (some gm)] W7 _ [.slice none 0 0, .map none] 0 hM 1 rfl
  have hz' := (vz gF [.slice so 1 ca, .map (some gm)] W7 0).size
  revert hM' hz'
  generalize W7.setCells gF 0 [.slice so 1 ca, .map (some gm)] = W7b
  intro hM' hzW7b
  clear hM
  have hM := hM'
  clear hM'
  refine i_set (w' := W7b.setCells gE 0 [.int .i64 0]) hF hA rfl rfl (by intro c h; cases h) (zh rfl rfl rfl (by kernel_rfl) hM 0 rfl rfl rfl) ?_
  have hM' : Mg w (W7b.setCells gE 0 [.int .i64 0]) [.obj gE (.cells #[.int .i64 0] 32), .obj gF (.cells #[.slice so 1 ca, .map (some gm)] 67), .row 52 15 (.slice (some ⟨go, 0, none⟩) 1 co) 1 (ja 3 (.slice sf 1 cf) (.slice sn 1 cn))] := Mg.puts [.int .i64 0] W7b _ [.int .i64 0] 0 hM 0 rfl
  have hz' := (vz gE [.int .i64 0] W7b 0).size
  revert hM' hz'
  generalize W7b.setCells gE 0 [.int .i64 0] = W8
  intro hM' hzW8
  clear hM
  have hM := hM'
  clear hM'
  refine wpListIn_nil (hK5 _ _ (yq fun K6 hK6 => yq fun K7 hK7 => wpIn_region_lit ?_))
  refine xz hF hA rfl rfl rfl (by intro c h; cases h) (qe rfl) fun a hA h22 => ?_
  refine qge (R := fun v W => v = .func (.func 40) #[] #[.pointer (some ⟨W8.heap.size, 0, none⟩)] ∧ W = W8.alloc (.cells #[.slice (some ⟨go, 0, none⟩) 1 co] 50)) hF rfl hA rfl rfl rfl (by intro c h; cases h) (qh rfl rfl (fun w => by kernel_rfl)) (callsIn_wide.2 (back_impA.mono (fun e w' h => ⟨_, h.1, rfl, h.2⟩))) ?_
  rintro _ W9 ⟨rfl, hW9⟩ a hA h23
  refine wpListIn_nil (hK7 _ _ (wpIn_block ?_))
  have hB9 : Below W8.heap.size W8 W9 := hW9 ▸ (Below.refl _ W8).alloc (Nat.le_refl _) _
  have hs9 : W9.heap.size = W8.heap.size + 1 := by rw [hW9]; simp
  have hc9 : W9.cell? ⟨W8.heap.size, 0, none⟩ = some (.slice (some ⟨go, 0, none⟩) 1 co) := by
    rw [hW9, cell_of_row _ _ _ _ _ _ (heap_alloc_new W8 _)]; rfl
  replace hM := hM.call hB9
  have hr9 : ∀ q u, (ja 3 (.slice sf 1 cf) (.slice sn 1 cn))[q]? = some u → W9.cell? ⟨go, q, none⟩ = some u := by
    obtain ⟨b, o, e, h⟩ := kl (hM.has 2 rfl) (by unfold ja; simp)
    cases e
    intro q u hq
    have := h q u hq
    rwa [Nat.zero_add] at this
  have hsw := hM.bel.size
  have hI0 : NmI w gF gE so ca gm x y p [] W9 := hM.sub (cC (cC (cN (List.nil_sublist _))))
  have hs4 := (hM5.bel.size)
  refine wpIn_rangeFunc_ownH (F := Fence.wide) rfl (by decide) (gf := 40) (lb := #[.pointer (some ⟨W8.heap.size, 0, none⟩)]) (hA.ev rfl) trivial (fun us w => by kernel_rfl)
    (back_impS (w0 := W9) (go := go) (ca := co) (cs := ja 3 (.slice sf 1 cf) (.slice sn 1 cn)) rfl hc9 hr9 _) KpI.trans ?hkb (Below.refl _ _) (fun _ => rfl)
    (NmI w gF gE so ca gm x y p) (fun _ _ _ => False) (nmI_own w gF gE so ca gm x y p _ (by omega)) (fun _ _ _ _ _ hs _ _ => hs)
    hI0
    (fun _ a' W => ∃ Bx, Sd a' 42 [(9, .pointer (some ⟨gF, 0, none⟩)), (10, .pointer (some ⟨gE, 0, none⟩)), (12, .pointer (some ⟨Bx, 0, none⟩))] ∧ Here W Bx 0 (ja 3 (.slice sf 1 cf) (.slice sn 1 cn)))
    (fun _ a' _ X Y row hs hg hr => by obtain ⟨Bx, h1, h2⟩ := hs; exact ⟨Bx, h1, h2.kept (kept_calm hg (fun r e => (hr r e).2))⟩)
    ?assign ?body ?done ?stop
  case hkb =>
    intro W l o o' hl1 hl2 hl3 _
    refine ⟨(grownBy_putObj' W l o').size, fun b hb i v hv => (grownBy_putObj' W l o').cell hv (fun e => ?_)⟩
    have e' : b = l := Option.some.inj e
    subst e'
    unfold World.cell? at hv
    simp only [hl2] at hv
    cases o <;> simp_all [Obj.isCells]
  case assign =>
    rintro l pre u W K hMz hK
    have hA1 : Sd { tmps := (a.tmps.setIfInBounds 28 (.int .i64 0)).setIfInBounds 29 (.agg (ja 3 (.slice sf 1 cf) (.slice sn 1 cn)).toArray), defers := [] } 42 _ := Sl.put (Sl.put hA (d := 28) rfl (.int .i64 0)) (d := 29) rfl (.agg (ja 3 (.slice sf 1 cf) (.slice sn 1 cn)).toArray)
    have hF2 : ∀ f, (Fence.wide.inRound l).fn f := fun _ => trivial
    simp only [List.zip_toArray, List.zip_cons_cons, List.zip_nil_left, List.zip_nil_right, List.foldl_toArray', List.foldl_toArray, List.foldl_cons, List.foldl_nil]
    refine wpIn_region_lit ?_
    refine i_new (a := { tmps := (a.tmps.setIfInBounds 28 (.int .i64 0)).setIfInBounds 29 (.agg (ja 3 (.slice sf 1 cf) (.slice sn 1 cn)).toArray), defers := [] }) (w0 := W) (L := []) (vs := ja 0 (.slice none 0 0) (.slice none 0 0)) (t := 52) hF2 hA1 (Mg.start W) rfl rfl rfl (by intro c h; cases h) (fun g => .pointer (some ⟨g, 0, none⟩)) (zd (z := .agg (ja 0 (.slice none 0 0) (.slice none 0 0)).toArray) (by kernel_rfl) rfl) (by decide) ?_
    intro Bx X6 hM6 hBx hBx' hB6 hK6 a6 hA6 _
    refine i_set (w' := X6.setCells Bx 0 (ja 3 (.slice sf 1 cf) (.slice sn 1 cn))) hF2 hA6 rfl rfl (by intro c h; cases h) (zh rfl rfl rfl (by kernel_rfl) hM6 0 rfl rfl rfl) ?_
    have hM7 : Mg W (X6.setCells Bx 0 (ja 3 (.slice sf 1 cf) (.slice sn 1 cn))) [.obj Bx (.cells (ja 3 (.slice sf 1 cf) (.slice sn 1 cn)).toArray 52)] := Mg.puts (ja 3 (.slice sf 1 cf) (.slice sn 1 cn)) X6 _ (ja 0 (.slice none 0 0) (.slice none 0 0)) 0 hM6 0 rfl
    have hks := hK6.trans (vz Bx (ja 3 (.slice sf 1 cf) (.slice sn 1 cn)) X6 0)
    revert hM7 hks
    generalize X6.setCells Bx 0 (ja 3 (.slice sf 1 cf) (.slice sn 1 cn)) = X7
    intro hM7 hks
    have hI7 : NmI w gF gE so ca gm x y p pre X7 := by
      cases pre with
      | nil => exact Mg.call hMz hM7.bel
      | cons _ _ => obtain ⟨gq, cq, gz, h⟩ := hMz; exact ⟨gq, cq, gz, h.call hM7.bel⟩
    refine wpListIn_nil (hK _ _ (hks.from _) ⟨hM7.bel.size, fun b _ i v hv => (hM7.bel.cell (p := ⟨b, i, none⟩) (vl hv)).trans hv⟩ hI7 ⟨Bx, hA6.keep _ ⟨rfl, rfl, rfl, trivial⟩, (Array.getElem?_eq_some_iff.1 (hM7.obj 0 rfl)).1, fun j v hj => by rw [Nat.zero_add]; exact hM7.cell 0 rfl j hj⟩)
  case body =>
    rintro l pre u a' W hl1 _ hMz ⟨Bx, hA, hH⟩ hlen
    obtain rfl : pre = [] := List.length_eq_zero_iff.1 (by omega)
    have hF2 : ∀ f, (Fence.wide.inRound l).fn f := fun _ => trivial
    have hMz' : Mg w W [.obj gE (.cells #[.int .i64 0] 32), .obj gF (.cells #[.slice so 1 ca, .map (some gm)] 67)] := hMz
    refine wpIn_block (yq fun K8 hK8 => yq fun K9 hK9 => wpIn_region_lit ?_)
    refine xz (v := .int .i64 0) hF2 hA rfl rfl rfl (by intro c h; cases h) (zk hMz' yk rfl 0 rfl rfl) fun a hA h6 => ?_
    refine xz (v := .bool false) hF2 hA rfl rfl rfl (by intro c h; cases h) (qg rfl rfl (fun w => by kernel_rfl)) fun a hA h7 => ?_
    refine wpListIn_nil (hK9 _ _ (wpIn_cond_false (hA.ev rfl) (wpIn_skip (hK8 _ _ (wpIn_region_lit ?_)))))
    refine xz (v := .agg #[.slice so 1 ca, .map (some gm)]) hF2 hA rfl rfl rfl (by intro c h; cases h) (jf hMz' f_isS_bset rfl 1 rfl (cs := [.slice so 1 ca, .map (some gm)]) rfl rfl) fun a hA h8 => ?_
    refine xz (v := .agg (ja 3 (.slice sf 1 cf) (.slice sn 1 cn)).toArray) hF2 hA rfl rfl rfl (by intro c h; cases h) (jb rfl (vn qeh _ rfl (fun j v hj => by have := hH.2 j v hj; rwa [Nat.zero_add] at this ⊢))) fun a hA h9 => ?_
    refine qge (R := fun v X => ∃ gq cq gz, v = .tuple #[.agg #[.slice (some ⟨gq, 0, none⟩) 1 cq, .map (some gz)], .int .i64 0] ∧ Mg W X [.row 54 2 (.slice (some ⟨gq, 0, none⟩) 1 cq) 1 [.string (p ++ x), .string y]]) hF2 rfl hA rfl rfl rfl (by intro c h; cases h) (qh rfl rfl (fun w => by kernel_rfl)) ((callsIn_wide.2 ((through3_any (hR.below hMz'.bel) (hN.below hMz'.bel) hp).mono (fun e w' h => by obtain ⟨gq, cq, gz, h1, h2⟩ := h; exact ⟨_, h1, gq, cq, gz, rfl, h2⟩))).inRound l) ?_
    rintro _ X1 ⟨gq, cq, gz, rfl, hM1⟩ a hA h10
    have hM2 : Mg w X1 [.row 54 2 (.slice (some ⟨gq, 0, none⟩) 1 cq) 1 [.string (p ++ x), .string y], .obj gE (.cells #[.int .i64 0] 32), .obj gF (.cells #[.slice so 1 ca, .map (some gm)] 67)] := hMz'.both hM1 (qr (by simp) (qr (by simp) (qp qw))) (qr (by simp) (qp qw))
    refine xz hF2 hA rfl rfl rfl (by intro c h; cases h) (qe rfl) fun a hA h11 => ?_
    refine xz hF2 hA rfl rfl rfl (by intro c h; cases h) (qn (vs := [.agg #[.slice (some ⟨gq, 0, none⟩) 1 cq, .map (some gz)], .int .i64 0]) rfl rfl) fun a hA h12 => ?_
    refine xz hF2 hA rfl rfl rfl (by intro c h; cases h) (qn (vs := [.agg #[.slice (some ⟨gq, 0, none⟩) 1 cq, .map (some gz)], .int .i64 0]) rfl rfl) fun a hA h13 => ?_
    refine i_set (w' := X1.setCells gF 0 [.slice (some ⟨gq, 0, none⟩) 1 cq, .map (some gz)]) hF2 hA rfl rfl (by intro c h; cases h) (zh rfl rfl rfl (by kernel_rfl) hM2 2 rfl rfl rfl) ?_
    have hM3 : Mg w (X1.setCells gF 0 [.slice (some ⟨gq, 0, none⟩) 1 cq, .map (some gz)]) [.row 54 2 (.slice (some ⟨gq, 0, none⟩) 1 cq) 1 [.string (p ++ x), .string y], .obj gE (.cells #[.int .i64 0] 32), .obj gF (.cells #[.slice (some ⟨gq, 0, none⟩) 1 cq, .map (some gz)] 67)] := Mg.puts [.slice (some ⟨gq, 0, none⟩) 1 cq, .map (some gz)] X1 _ [.slice so 1 ca, .map (some gm)] 0 hM2 2 rfl
    have hk3 := vz gF [.slice (some ⟨gq, 0, none⟩) 1 cq, .map (some gz)] X1 0
    have hp3 : Kept (· ≠ gF) X1 (X1.setCells gF 0 [.slice (some ⟨gq, 0, none⟩) 1 cq, .map (some gz)]) := qch _ _ _ _
    revert hM3 hk3 hp3
    generalize X1.setCells gF 0 [.slice (some ⟨gq, 0, none⟩) 1 cq, .map (some gz)] = X3
    intro hM3 hk3 hp3
    refine i_set (w' := X3.setCells gE 0 [.int .i64 0]) hF2 hA rfl rfl (by intro c h; cases h) (zh rfl rfl rfl (by kernel_rfl) hM3 1 rfl rfl rfl) ?_
    have hM4 : Mg w (X3.setCells gE 0 [.int .i64 0]) [.row 54 2 (.slice (some ⟨gq, 0, none⟩) 1 cq) 1 [.string (p ++ x), .string y], .obj gE (.cells #[.int .i64 0] 32), .obj gF (.cells #[.slice (some ⟨gq, 0, none⟩) 1 cq, .map (some gz)] 67)] := Mg.puts [.int .i64 0] X3 _ [.int .i64 0] 0 hM3 1 rfl
    have hk4 := vz gE [.int .i64 0] X3 0
    have hp4 : Kept (· ≠ gE) X3 (X3.setCells gE 0 [.int .i64 0]) := qch _ _ _ _
    revert hM4 hk4 hp4
    generalize X3.setCells gE 0 [.int .i64 0] = X4
    intro hM4 hk4 hp4
    have hkc : KeepsOthers W X1 := ⟨hM1.bel.size, fun k o hk _ => (hM1.bel.block k (Array.getElem?_eq_some_iff.1 hk).1).trans hk⟩
    refine wpListIn_nil ⟨((hkc.trans hk3).trans hk4).from _, ⟨Nat.le_trans hM1.bel.size (Nat.le_trans hk3.size hk4.size), fun b hb i v hv => ?_⟩, gq, cq, gz, ?_⟩
    · have h1 := (hM1.bel.cell (p := ⟨b, i, none⟩) (vl hv)).trans hv
      refine hp4.2 _ _ _ ?_ (hp3.2 _ _ _ ?_ h1) <;> rcases hb with rfl | rfl <;> omega
    · exact (hM4.bringJ 1 rfl rfl).bringJ 2 rfl rfl |>.bringJ 1 rfl rfl
  case done =>
    rintro D xs W hD1 hS hMz hDf
    subst hS
    obtain ⟨gq, cq, gz, hMq⟩ := hMz
    have hA2 : Sd { a with defers := { target := .collected D, args := #[] } :: a.defers } 42 _ := hA
    revert hA2
    generalize hae : ({ a with defers := { target := .collected D, args := #[] } :: a.defers } : Act) = a2
    intro hA2
    have had : a2.defers = [{ target := .collected D, args := #[] }] := by rw [← hae]; show _ :: a.defers = _; rw [h23, h22, h21, h20, h19, h18, h17, h16, h15, h14, h13, h12, h11, h10, h9, h8, h7, h6, h5, h4, h3, h2, h1, hdf]
    have hMd := hMq.drew
    refine hK6 _ _ (yq fun K9 hK9 => wpIn_region_any (by kernel_rfl) ?_)
    have hcF : W.drew.cell? ⟨gF, 0, none⟩ = some (.slice (some ⟨gq, 0, none⟩) 1 cq) := hMd.cell 1 rfl 0 rfl
    have hcE : W.drew.cell? ⟨gE, 0, none⟩ = some (.int .i64 0) := hMd.cell 0 rfl 0 rfl
    refine tail_any (Wd := W.drew) (gF := gF) (gE := gE) (gq := gq) (cq := cq) (ds := [{ target := .collected D, args := #[] }]) (RR := fun gr cr W5 => Mg W.drew W5 [.row 54 2 (.slice (some ⟨gr, 0, none⟩) 1 cr) 1 [.string (p ++ x), .string y]]) hcF hcE (fun gr cr W5 h => (h.bel.cell (p := ⟨gE, 0, none⟩) (vl hcE)).trans hcE) (callsIn_wide.2 ((fresh1_any (kl (hMd.has 2 rfl)) hpx hy).mono (fun e w' h => by obtain ⟨g, c, h1, h2⟩ := h; exact ⟨_, h1, g, c, rfl, h2⟩))) ?_ a2 (hA2.keep _ ⟨rfl, rfl, trivial⟩) had
    intro gr cr W5 hM5' a5 hA5 hd5
    refine hK9 _ _ (wpIn_ret (hret _ _ ?_))
    have hD5 : W5.heap[D]? = some (.deferred (some [])) := (hM5'.bel.block D (Array.getElem?_eq_some_iff.1 hDf).1).trans hDf
    have hgr := grownBy_putObj' W5 D (.deferred none)
    have hMw : Mg w W5 [.row 54 2 (.slice (some ⟨gr, 0, none⟩) 1 cr) 1 [.string (p ++ x), .string y]] := (hMd.both hM5' (qr (by simp) (qr (by simp) (qr (by simp) (qp qw)))) (qr (by simp) (qp qw))).sub (cC (List.nil_sublist _))
    have hM6 := Mg.calmJ hMw hgr (fun r e => by cases e; exact ⟨by omega, _, hD5, rfl⟩) (fun c hc => by simp only [List.mem_cons, List.not_mem_nil, or_false] at hc; subst hc; exact .inr ⟨_, _, _, _, _, rfl⟩)
    show LeavesInM _ _ _ _ _ _ a5.defers .returning _
    rw [hd5]
    refine ⟨by simp, .inl ⟨D, _, rfl, run_takeDeferred hD5, ?_⟩⟩
    have hfin : (fun (e : Ending) (w' : World) => ∃ g c2, e = .returned (.tuple #[.slice (some ⟨g, 0, none⟩) 1 c2, .int .i64 0]) ∧ Mg w w' [.row 54 2 (.slice (some ⟨g, 0, none⟩) 1 c2) 1 [.string (p ++ x), .string y]]) (.returned (.tuple #[.slice (some ⟨gr, 0, none⟩) 1 cr, .int .i64 0])) (W5.putObj D (.deferred none)) := ⟨gr, cr, rfl, hM6⟩
    exact (ze (P := Tryz.prog) (fn := Tryz.f13) (Z := (fun (e : Ending) (w' : World) => ∃ g c2, e = .returned (.tuple #[.slice (some ⟨g, 0, none⟩) 1 c2, .int .i64 0]) ∧ Mg w w' [.row 54 2 (.slice (some ⟨g, 0, none⟩) 1 c2) 1 [.string (p ++ x), .string y]])) (v := .tuple #[.slice (some ⟨gr, 0, none⟩) 1 cr, .int .i64 0]) (rs := [.tmp 4, .tmp 5]) (vs := [.slice (some ⟨gr, 0, none⟩) 1 cr, .int .i64 0]) hA5 rfl (.cons (ql rfl) (.cons (ql rfl) .nil)) rfl hfin).2
  case stop =>
    rintro D c pre W _ _ h _
    exact h.elim
end Go.Proofs.YtoopkbedjbnhhabGreatDoor.G
namespace Go.Proofs.YtoopkbedjbnhhabGreatDoor.G
open Go.RowKit
set_option maxRecDepth 100000
theorem JcI_isS_54 : IsS Tryz.prog 54 2 := ⟨⟨_, Tryz.underlying54⟩, by kernel_rfl⟩
theorem qai {w : World} : Calls Tryz.prog 6 #[] w fun e w' => e = .returned (.bool true) ∧ Below w.heap.size w w' := by
 have hM : Mg w w ([]) := Mg.start w
 refine zb (l := []) Tryz.func6 rfl Tryz.ntmps6 rfl rfl ?_
 intro Q hret hnorm hP a hA
 refine wp_seq_k (fun K1 hK1 => ?_)
 refine wp_region_lit ?_
 refine qa hA rfl rfl rfl (qb rfl) ?_
 intro a hA
 refine qf ?_
 refine hK1 _ _ ?_
 refine wp_seq_k (fun K2 hK2 => ?_)
 refine wp_region_lit ?_
 refine vt (e := 9) (sz := 1) (m := 1) (vs := [Value.string (⟨#[112, 58]⟩)]) hA hM rfl rfl rfl (qx rfl (by kernel_rfl)) rfl rfl (.inl (by decide)) ?_
 intro g3 w4 hM a hA
 refine qa (v := .agg (ja 0 (.slice none 0 0) (.slice none 0 0)).toArray) hA rfl rfl rfl (jt rfl (fun w => by kernel_rfl)) ?_
 intro a hA
 refine vt (e := 52) (sz := 15) (m := 1) (vs := (ja 0 (.slice none 0 0) (.slice none 0 0))) hA hM rfl rfl rfl (qx rfl (by kernel_rfl)) rfl rfl (.inl (by decide)) ?_
 intro g5 w6 hM a hA
 refine qa (v := .agg #[.int .i64 3, .slice none 0 0, .int .i64 0, .int .i64 0, .bool false, .slice none 0 0, .slice none 0 0, .bool false, .slice none 0 0, .slice none 0 0, .string (⟨#[]⟩), .slice none 0 0, .slice none 0 0, .slice (some ⟨g5, 0, none⟩) 1 1, .slice (some ⟨g3, 0, none⟩) 1 1]) hA rfl rfl rfl (jt rfl (fun w => by kernel_rfl)) ?_
 intro a hA
 refine qa (v := .agg #[.string (⟨#[120]⟩), .string (⟨#[121]⟩)]) hA rfl rfl rfl (jt rfl (fun w => by kernel_rfl)) ?_
 intro a hA
 refine vt (e := 54) (sz := 2) (m := 1) (vs := [Value.string (⟨#[120]⟩), .string (⟨#[121]⟩)]) hA hM rfl rfl rfl (qx rfl (by kernel_rfl)) rfl rfl (.inl (by decide)) ?_
 intro g7 w8 hM a hA
 refine qm hA rfl rfl rfl (qh rfl rfl (fun w => by kernel_rfl)) (names1_any (x := ⟨#[120]⟩) (y := ⟨#[121]⟩) (p := ⟨#[112, 58]⟩) (kl (hM.has 0 rfl)) (kl (hM.has 1 rfl)) (kl (hM.has 2 rfl)) (by decide) (by decide) (by decide)) ?_
 rintro _ w12 ⟨g9, ca10, rfl, hM11⟩
 replace hM : Mg w w12 (.row 54 2 (.slice (some ⟨g9, 0, none⟩) 1 ca10) 1 ([Value.string ((⟨#[112, 58]⟩ ++ ⟨#[120]⟩)), .string (⟨#[121]⟩)]) :: .row 54 2 (.slice (some ⟨g7, 0, none⟩) 1 1) 1 ([Value.string (⟨#[120]⟩), .string (⟨#[121]⟩)]) :: .row 52 15 (.slice (some ⟨g5, 0, none⟩) 1 1) 1 ((ja 0 (.slice none 0 0) (.slice none 0 0))) :: .row 9 1 (.slice (some ⟨g3, 0, none⟩) 1 1) 1 ([Value.string (⟨#[112, 58]⟩)]) :: []) := (hM.both hM11 (qr (by simp) (qr (by simp) (qr (by simp) (qp qw)))) (qr (by simp) (qp qw)))
 refine ⟨_, rfl, ?_⟩
 intro a hA
 refine qa hA rfl rfl rfl (qe rfl) ?_
 intro a hA
 refine qa (v := .slice (some ⟨g9, 0, none⟩) 1 ca10) hA rfl rfl rfl (qn (vs := [.slice (some ⟨g9, 0, none⟩) 1 ca10, .int .i64 0]) rfl rfl) ?_
 intro a hA
 refine qa (v := .int .i64 0) hA rfl rfl rfl (qn (vs := [.slice (some ⟨g9, 0, none⟩) 1 ca10, .int .i64 0]) rfl rfl) ?_
 intro a hA
 refine qa hA rfl rfl rfl (qb rfl) ?_
 intro a hA
 refine qa hA rfl rfl rfl (qb rfl) ?_
 intro a hA
 refine qf ?_
 refine hK2 _ _ ?_
 refine wp_seq_k (fun K13 hK13 => ?_)
 refine wp_region_lit ?_
 refine qa hA rfl rfl rfl (qe rfl) ?_
 intro a hA
 refine qa (v := .bool true) hA rfl rfl rfl (qg rfl rfl (fun w => by kernel_rfl)) ?_
 intro a hA
 refine qa hA rfl rfl rfl (qe rfl) ?_
 intro a hA
 refine qa hA rfl rfl rfl (qe rfl) ?_
 intro a hA
 refine qa (v := .int .i64 1) hA rfl rfl rfl (zj Tryz.underlying46 rfl) ?_
 intro a hA
 refine qa (v := .bool true) hA rfl rfl rfl (qg rfl rfl (fun w => by kernel_rfl)) ?_
 intro a hA
 refine qa (v := .bool true) hA rfl rfl rfl (qi rfl rfl rfl rfl) ?_
 intro a hA
 refine qa hA rfl rfl rfl (qe rfl) ?_
 intro a hA
 refine qa hA rfl rfl rfl (qe rfl) ?_
 intro a hA
 refine qa (v := .pointer (some ⟨g9, 0, none⟩)) hA rfl rfl rfl (vb (sz := 2) (k := 0) Tryz.underlying46 (by kernel_rfl) rfl rfl rfl Nat.zero_lt_one) ?_
 intro a hA
 refine qa hA rfl rfl rfl (m_loadES hM 0 rfl JcI_isS_54 (cs := [.string ((⟨#[112, 58]⟩ ++ ⟨#[120]⟩)), .string (⟨#[121]⟩)]) rfl rfl rfl) ?_
 intro a hA
 refine qa (v := .agg #[.string (⟨#[112, 58, 120]⟩), .string (⟨#[121]⟩)]) hA rfl rfl rfl (jt rfl (fun w => by kernel_rfl)) ?_
 intro a hA
 refine qa (v := .bool true) hA rfl rfl rfl (qg rfl rfl (fun w => by kernel_rfl)) ?_
 intro a hA
 refine qa (v := .bool true) hA rfl rfl rfl (qi rfl rfl rfl rfl) ?_
 intro a hA
 refine qa hA rfl rfl rfl (qb rfl) ?_
 intro a hA
 refine qf ?_
 refine hK13 _ _ ?_
 refine wp_ret ?_
 refine hret _ _ ?_
 refine ze (v := .bool true) hA rfl (.cons (ql rfl) .nil) rfl ?_
 exact ⟨rfl, hM.bel⟩
end Go.Proofs.YtoopkbedjbnhhabGreatDoor.G
