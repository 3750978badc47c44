/- Walks of the document's small functions. -/
import Derived.Test.YtcjgjbaadmohbaaCoT
import Derived.Test.YtcjgjbaadmohbaaMt
namespace Go.Proofs.Ytcjgjbaadmohbaa
open Go.RowKit
set_option linter.unusedVariables false
set_option linter.unusedSimpArgs false
set_option maxRecDepth 100000
theorem CoP_is1_3 : Is1 Try.prog 3 := ⟨⟨_, Try.underlying3, rfl⟩, by kernel_rfl⟩
theorem CoP_fld_23_0 : FieldAt Try.prog 23 0 0 := ⟨_, _, Try.underlying23, rfl, rfl, by kernel_rfl⟩
theorem CoP_fld_23_1 : FieldAt Try.prog 23 1 1 := ⟨_, _, Try.underlying23, rfl, rfl, by kernel_rfl⟩
theorem CoP_fld_23_2 : FieldAt Try.prog 23 2 2 := ⟨_, _, Try.underlying23, rfl, rfl, by kernel_rfl⟩
theorem rcheck_any {w : World} {c k m : Int} : Calls Try.prog 11 #[.agg #[.int .i64 c, .int .i64 k, .int .i64 m]] w fun e w' => e = .returned (.int .i64 (checkS c k m)) ∧ Below w.heap.size w w' := by
 have hM : Mg w w ([]) := Mg.start w
 refine walk_of (l := [(0, .agg #[.int .i64 c, .int .i64 k, .int .i64 m])]) Try.func11 rfl Try.ntmps11 rfl rfl ?_
 intro Q hret hnorm hP a hA
 refine wp_seq_k (fun K1 hK1 => ?_)
 refine wp_region_lit ?_
 refine s_new (vs := [.int .i64 c, .int .i64 k, .int .i64 m]) (t := 23) hA hM rfl rfl rfl (fun g => .pointer (some ⟨g, 0, none⟩)) (does_box rfl rfl) (by decide) ?_
 intro g2 w3 hM a hA
 refine seq_do hA rfl rfl rfl (does_assign rfl) ?_
 intro a hA
 refine seq_end ?_
 refine hK1 _ _ ?_
 refine wp_seq_k (fun K4 hK4 => ?_)
 refine wp_seq_k (fun K5 hK5 => ?_)
 refine wp_region_lit ?_
 refine seq_do (v := .pointer (some ⟨g2, 0, none⟩)) hA rfl rfl rfl (does_field CoP_fld_23_0 rfl rfl) ?_
 intro a hA
 refine seq_do hA rfl rfl rfl (m_load1 hM CoP_is1_3 rfl 0 rfl rfl) ?_
 intro a hA
 rcases Bool.eq_false_or_eq_true (decide (c < 1)) with hb6 | hb6
 · have hb6' := of_decide_eq_true hb6
   refine seq_do (v := .bool true) hA rfl rfl rfl (does_bin rfl rfl (fun w => (bin_lss w).trans (by rw [hb6]))) ?_
   intro a hA
   refine seq_do hA rfl rfl rfl (does_move rfl) ?_
   intro a hA
   refine seq_skip hA rfl rfl rfl ?_
   intro a hA
   refine seq_skip hA rfl rfl rfl ?_
   intro a hA
   refine seq_skip hA rfl rfl rfl ?_
   intro a hA
   refine seq_do (v := .bool true) hA rfl rfl rfl (does_pick rfl rfl rfl rfl) ?_
   intro a hA
   refine seq_do hA rfl rfl rfl (does_move rfl) ?_
   intro a hA
   refine seq_skip hA rfl rfl rfl ?_
   intro a hA
   refine seq_skip hA rfl rfl rfl ?_
   intro a hA
   refine seq_skip hA rfl rfl rfl ?_
   intro a hA
   refine seq_do (v := .bool true) hA rfl rfl rfl (does_pick rfl rfl rfl rfl) ?_
   intro a hA
   refine seq_do hA rfl rfl rfl (does_move rfl) ?_
   intro a hA
   refine seq_skip hA rfl rfl rfl ?_
   intro a hA
   refine seq_skip hA rfl rfl rfl ?_
   intro a hA
   refine seq_skip hA rfl rfl rfl ?_
   intro a hA
   refine seq_do (v := .bool true) hA rfl rfl rfl (does_pick rfl rfl rfl rfl) ?_
   intro a hA
   refine seq_do hA rfl rfl rfl (does_move rfl) ?_
   intro a hA
   refine seq_skip hA rfl rfl rfl ?_
   intro a hA
   refine seq_skip hA rfl rfl rfl ?_
   intro a hA
   refine seq_skip hA rfl rfl rfl ?_
   intro a hA
   refine seq_do (v := .bool true) hA rfl rfl rfl (does_pick rfl rfl rfl rfl) ?_
   intro a hA
   refine seq_do hA rfl rfl rfl (does_move rfl) ?_
   intro a hA
   refine seq_skip hA rfl rfl rfl ?_
   intro a hA
   refine seq_skip hA rfl rfl rfl ?_
   intro a hA
   refine seq_skip hA rfl rfl rfl ?_
   intro a hA
   refine seq_do (v := .bool true) hA rfl rfl rfl (does_pick rfl rfl rfl rfl) ?_
   intro a hA
   refine seq_end ?_
   refine hK5 _ _ ?_
   refine wp_cond_true (hA.ev rfl) ?_
   refine wp_seq_k (fun K7 hK7 => ?_)
   refine wp_region_lit ?_
   refine seq_do hA rfl rfl rfl (does_assign rfl) ?_
   intro a hA
   refine seq_end ?_
   refine hK7 _ _ ?_
   refine wp_ret ?_
   refine hret _ _ ?_
   refine ends (v := .int .i64 1) hA rfl (.cons (res_tmp rfl) .nil) rfl ?_
   exact ⟨by rw [show checkS c k m = 1 from by unfold checkS; rw [if_neg (by omega)]], hM.bel⟩
 · have hb6' := of_decide_eq_false hb6
   refine seq_do (v := .bool false) hA rfl rfl rfl (does_bin rfl rfl (fun w => (bin_lss w).trans (by rw [hb6]))) ?_
   intro a hA
   refine seq_do hA rfl rfl rfl (does_move rfl) ?_
   intro a hA
   refine seq_do (v := .pointer (some ⟨g2, 0, none⟩)) hA rfl rfl rfl (does_field CoP_fld_23_0 rfl rfl) ?_
   intro a hA
   refine seq_do hA rfl rfl rfl (m_load1 hM CoP_is1_3 rfl 0 rfl rfl) ?_
   intro a hA
   rcases Bool.eq_false_or_eq_true (decide (3 < c)) with hb8 | hb8
   · have hb8' := of_decide_eq_true hb8
     refine seq_do (v := .bool true) hA rfl rfl rfl (does_bin rfl rfl (fun w => (bin_gtr w).trans (by rw [hb8]))) ?_
     intro a hA
     refine seq_do (v := .bool true) hA rfl rfl rfl (does_pick rfl rfl rfl rfl) ?_
     intro a hA
     refine seq_do hA rfl rfl rfl (does_move rfl) ?_
     intro a hA
     refine seq_skip hA rfl rfl rfl ?_
     intro a hA
     refine seq_skip hA rfl rfl rfl ?_
     intro a hA
     refine seq_skip hA rfl rfl rfl ?_
     intro a hA
     refine seq_do (v := .bool true) hA rfl rfl rfl (does_pick rfl rfl rfl rfl) ?_
     intro a hA
     refine seq_do hA rfl rfl rfl (does_move rfl) ?_
     intro a hA
     refine seq_skip hA rfl rfl rfl ?_
     intro a hA
     refine seq_skip hA rfl rfl rfl ?_
     intro a hA
     refine seq_skip hA rfl rfl rfl ?_
     intro a hA
     refine seq_do (v := .bool true) hA rfl rfl rfl (does_pick rfl rfl rfl rfl) ?_
     intro a hA
     refine seq_do hA rfl rfl rfl (does_move rfl) ?_
     intro a hA
     refine seq_skip hA rfl rfl rfl ?_
     intro a hA
     refine seq_skip hA rfl rfl rfl ?_
     intro a hA
     refine seq_skip hA rfl rfl rfl ?_
     intro a hA
     refine seq_do (v := .bool true) hA rfl rfl rfl (does_pick rfl rfl rfl rfl) ?_
     intro a hA
     refine seq_do hA rfl rfl rfl (does_move rfl) ?_
     intro a hA
     refine seq_skip hA rfl rfl rfl ?_
     intro a hA
     refine seq_skip hA rfl rfl rfl ?_
     intro a hA
     refine seq_skip hA rfl rfl rfl ?_
     intro a hA
     refine seq_do (v := .bool true) hA rfl rfl rfl (does_pick rfl rfl rfl rfl) ?_
     intro a hA
     refine seq_end ?_
     refine hK5 _ _ ?_
     refine wp_cond_true (hA.ev rfl) ?_
     refine wp_seq_k (fun K9 hK9 => ?_)
     refine wp_region_lit ?_
     refine seq_do hA rfl rfl rfl (does_assign rfl) ?_
     intro a hA
     refine seq_end ?_
     refine hK9 _ _ ?_
     refine wp_ret ?_
     refine hret _ _ ?_
     refine ends (v := .int .i64 1) hA rfl (.cons (res_tmp rfl) .nil) rfl ?_
     exact ⟨by rw [show checkS c k m = 1 from by unfold checkS; rw [if_neg (by omega)]], hM.bel⟩
   · have hb8' := of_decide_eq_false hb8
     refine seq_do (v := .bool false) hA rfl rfl rfl (does_bin rfl rfl (fun w => (bin_gtr w).trans (by rw [hb8]))) ?_
     intro a hA
     refine seq_do (v := .bool false) hA rfl rfl rfl (does_pick rfl rfl rfl rfl) ?_
     intro a hA
     refine seq_do hA rfl rfl rfl (does_move rfl) ?_
     intro a hA
     refine seq_do (v := .pointer (some ⟨g2, 1, none⟩)) hA rfl rfl rfl (does_field CoP_fld_23_1 rfl rfl) ?_
     intro a hA
     refine seq_do hA rfl rfl rfl (m_load1 hM CoP_is1_3 rfl 0 rfl rfl) ?_
     intro a hA
     rcases Bool.eq_false_or_eq_true (decide (k < 0)) with hb10 | hb10
     · have hb10' := of_decide_eq_true hb10
       refine seq_do (v := .bool true) hA rfl rfl rfl (does_bin rfl rfl (fun w => (bin_lss w).trans (by rw [hb10]))) ?_
       intro a hA
       refine seq_do (v := .bool true) hA rfl rfl rfl (does_pick rfl rfl rfl rfl) ?_
       intro a hA
       refine seq_do hA rfl rfl rfl (does_move rfl) ?_
       intro a hA
       refine seq_skip hA rfl rfl rfl ?_
       intro a hA
       refine seq_skip hA rfl rfl rfl ?_
       intro a hA
       refine seq_skip hA rfl rfl rfl ?_
       intro a hA
       refine seq_do (v := .bool true) hA rfl rfl rfl (does_pick rfl rfl rfl rfl) ?_
       intro a hA
       refine seq_do hA rfl rfl rfl (does_move rfl) ?_
       intro a hA
       refine seq_skip hA rfl rfl rfl ?_
       intro a hA
       refine seq_skip hA rfl rfl rfl ?_
       intro a hA
       refine seq_skip hA rfl rfl rfl ?_
       intro a hA
       refine seq_do (v := .bool true) hA rfl rfl rfl (does_pick rfl rfl rfl rfl) ?_
       intro a hA
       refine seq_do hA rfl rfl rfl (does_move rfl) ?_
       intro a hA
       refine seq_skip hA rfl rfl rfl ?_
       intro a hA
       refine seq_skip hA rfl rfl rfl ?_
       intro a hA
       refine seq_skip hA rfl rfl rfl ?_
       intro a hA
       refine seq_do (v := .bool true) hA rfl rfl rfl (does_pick rfl rfl rfl rfl) ?_
       intro a hA
       refine seq_end ?_
       refine hK5 _ _ ?_
       refine wp_cond_true (hA.ev rfl) ?_
       refine wp_seq_k (fun K11 hK11 => ?_)
       refine wp_region_lit ?_
       refine seq_do hA rfl rfl rfl (does_assign rfl) ?_
       intro a hA
       refine seq_end ?_
       refine hK11 _ _ ?_
       refine wp_ret ?_
       refine hret _ _ ?_
       refine ends (v := .int .i64 1) hA rfl (.cons (res_tmp rfl) .nil) rfl ?_
       exact ⟨by rw [show checkS c k m = 1 from by unfold checkS; rw [if_neg (by omega)]], hM.bel⟩
     · have hb10' := of_decide_eq_false hb10
       refine seq_do (v := .bool false) hA rfl rfl rfl (does_bin rfl rfl (fun w => (bin_lss w).trans (by rw [hb10]))) ?_
       intro a hA
       refine seq_do (v := .bool false) hA rfl rfl rfl (does_pick rfl rfl rfl rfl) ?_
       intro a hA
       refine seq_do hA rfl rfl rfl (does_move rfl) ?_
       intro a hA
       refine seq_do (v := .pointer (some ⟨g2, 1, none⟩)) hA rfl rfl rfl (does_field CoP_fld_23_1 rfl rfl) ?_
       intro a hA
       refine seq_do hA rfl rfl rfl (m_load1 hM CoP_is1_3 rfl 0 rfl rfl) ?_
       intro a hA
       rcases Bool.eq_false_or_eq_true (decide (5 < k)) with hb12 | hb12
       · have hb12' := of_decide_eq_true hb12
         refine seq_do (v := .bool true) hA rfl rfl rfl (does_bin rfl rfl (fun w => (bin_gtr w).trans (by rw [hb12]))) ?_
         intro a hA
         refine seq_do (v := .bool true) hA rfl rfl rfl (does_pick rfl rfl rfl rfl) ?_
         intro a hA
         refine seq_do hA rfl rfl rfl (does_move rfl) ?_
         intro a hA
         refine seq_skip hA rfl rfl rfl ?_
         intro a hA
         refine seq_skip hA rfl rfl rfl ?_
         intro a hA
         refine seq_skip hA rfl rfl rfl ?_
         intro a hA
         refine seq_do (v := .bool true) hA rfl rfl rfl (does_pick rfl rfl rfl rfl) ?_
         intro a hA
         refine seq_do hA rfl rfl rfl (does_move rfl) ?_
         intro a hA
         refine seq_skip hA rfl rfl rfl ?_
         intro a hA
         refine seq_skip hA rfl rfl rfl ?_
         intro a hA
         refine seq_skip hA rfl rfl rfl ?_
         intro a hA
         refine seq_do (v := .bool true) hA rfl rfl rfl (does_pick rfl rfl rfl rfl) ?_
         intro a hA
         refine seq_end ?_
         refine hK5 _ _ ?_
         refine wp_cond_true (hA.ev rfl) ?_
         refine wp_seq_k (fun K13 hK13 => ?_)
         refine wp_region_lit ?_
         refine seq_do hA rfl rfl rfl (does_assign rfl) ?_
         intro a hA
         refine seq_end ?_
         refine hK13 _ _ ?_
         refine wp_ret ?_
         refine hret _ _ ?_
         refine ends (v := .int .i64 1) hA rfl (.cons (res_tmp rfl) .nil) rfl ?_
         exact ⟨by rw [show checkS c k m = 1 from by unfold checkS; rw [if_neg (by omega)]], hM.bel⟩
       · have hb12' := of_decide_eq_false hb12
         refine seq_do (v := .bool false) hA rfl rfl rfl (does_bin rfl rfl (fun w => (bin_gtr w).trans (by rw [hb12]))) ?_
         intro a hA
         refine seq_do (v := .bool false) hA rfl rfl rfl (does_pick rfl rfl rfl rfl) ?_
         intro a hA
         refine seq_do hA rfl rfl rfl (does_move rfl) ?_
         intro a hA
         refine seq_do (v := .pointer (some ⟨g2, 2, none⟩)) hA rfl rfl rfl (does_field CoP_fld_23_2 rfl rfl) ?_
         intro a hA
         refine seq_do hA rfl rfl rfl (m_load1 hM CoP_is1_3 rfl 0 rfl rfl) ?_
         intro a hA
         rcases Bool.eq_false_or_eq_true (decide (m < 0)) with hb14 | hb14
         · have hb14' := of_decide_eq_true hb14
           refine seq_do (v := .bool true) hA rfl rfl rfl (does_bin rfl rfl (fun w => (bin_lss w).trans (by rw [hb14]))) ?_
           intro a hA
           refine seq_do (v := .bool true) hA rfl rfl rfl (does_pick rfl rfl rfl rfl) ?_
           intro a hA
           refine seq_do hA rfl rfl rfl (does_move rfl) ?_
           intro a hA
           refine seq_skip hA rfl rfl rfl ?_
           intro a hA
           refine seq_skip hA rfl rfl rfl ?_
           intro a hA
           refine seq_skip hA rfl rfl rfl ?_
           intro a hA
           refine seq_do (v := .bool true) hA rfl rfl rfl (does_pick rfl rfl rfl rfl) ?_
           intro a hA
           refine seq_end ?_
           refine hK5 _ _ ?_
           refine wp_cond_true (hA.ev rfl) ?_
           refine wp_seq_k (fun K15 hK15 => ?_)
           refine wp_region_lit ?_
           refine seq_do hA rfl rfl rfl (does_assign rfl) ?_
           intro a hA
           refine seq_end ?_
           refine hK15 _ _ ?_
           refine wp_ret ?_
           refine hret _ _ ?_
           refine ends (v := .int .i64 1) hA rfl (.cons (res_tmp rfl) .nil) rfl ?_
           exact ⟨by rw [show checkS c k m = 1 from by unfold checkS; rw [if_neg (by omega)]], hM.bel⟩
         · have hb14' := of_decide_eq_false hb14
           refine seq_do (v := .bool false) hA rfl rfl rfl (does_bin rfl rfl (fun w => (bin_lss w).trans (by rw [hb14]))) ?_
           intro a hA
           refine seq_do (v := .bool false) hA rfl rfl rfl (does_pick rfl rfl rfl rfl) ?_
           intro a hA
           refine seq_do hA rfl rfl rfl (does_move rfl) ?_
           intro a hA
           refine seq_do (v := .pointer (some ⟨g2, 2, none⟩)) hA rfl rfl rfl (does_field CoP_fld_23_2 rfl rfl) ?_
           intro a hA
           refine seq_do hA rfl rfl rfl (m_load1 hM CoP_is1_3 rfl 0 rfl rfl) ?_
           intro a hA
           rcases Bool.eq_false_or_eq_true (decide (2 < m)) with hb16 | hb16
           · have hb16' := of_decide_eq_true hb16
             refine seq_do (v := .bool true) hA rfl rfl rfl (does_bin rfl rfl (fun w => (bin_gtr w).trans (by rw [hb16]))) ?_
             intro a hA
             refine seq_do (v := .bool true) hA rfl rfl rfl (does_pick rfl rfl rfl rfl) ?_
             intro a hA
             refine seq_end ?_
             refine hK5 _ _ ?_
             refine wp_cond_true (hA.ev rfl) ?_
             refine wp_seq_k (fun K17 hK17 => ?_)
             refine wp_region_lit ?_
             refine seq_do hA rfl rfl rfl (does_assign rfl) ?_
             intro a hA
             refine seq_end ?_
             refine hK17 _ _ ?_
             refine wp_ret ?_
             refine hret _ _ ?_
             refine ends (v := .int .i64 1) hA rfl (.cons (res_tmp rfl) .nil) rfl ?_
             exact ⟨by rw [show checkS c k m = 1 from by unfold checkS; rw [if_neg (by omega)]], hM.bel⟩
           · have hb16' := of_decide_eq_false hb16
             refine seq_do (v := .bool false) hA rfl rfl rfl (does_bin rfl rfl (fun w => (bin_gtr w).trans (by rw [hb16]))) ?_
             intro a hA
             refine seq_do (v := .bool false) hA rfl rfl rfl (does_pick rfl rfl rfl rfl) ?_
             intro a hA
             refine seq_end ?_
             refine hK5 _ _ ?_
             refine wp_cond_false (hA.ev rfl) ?_
             refine wp_skip ?_
             refine hK4 _ _ ?_
             refine wp_seq_k (fun K18 hK18 => ?_)
             refine wp_region_lit ?_
             refine seq_do hA rfl rfl rfl (does_assign rfl) ?_
             intro a hA
             refine seq_end ?_
             refine hK18 _ _ ?_
             refine wp_ret ?_
             refine hret _ _ ?_
             refine ends (v := .int .i64 0) hA rfl (.cons (res_tmp rfl) .nil) rfl ?_
             exact ⟨by rw [show checkS c k m = 0 from by unfold checkS; rw [if_pos (by omega)]], hM.bel⟩
/-- Characters as cells. -/
def runeV (rs : List Int) : List Value := rs.map fun r => .int .i32 r
/-- The characters of a style's line end. -/
def eolsS (k : Int) : List Int := if k = 2 then [13] else if k = 3 then [13, 10] else if k = 4 then [133] else if k = 5 then [8232] else [10]
theorem reols_any {w : World} {k : Int} : Calls Try.prog 50 #[.int .i64 k] w fun e w' => ∃ v, e = .returned v ∧ Mg w w' [.row 21 1 v (eolsS k).length (runeV (eolsS k))] := by
 have hM : Mg w w ([]) := Mg.start w
 refine walk_of (l := [(0, .int .i64 k)]) Try.func50 rfl Try.ntmps50 rfl rfl ?_
 intro Q hret hnorm hP a hA
 refine wp_seq_k (fun K1 hK1 => ?_)
 refine wp_region_lit ?_
 refine seq_do hA rfl rfl rfl (does_assign rfl) ?_
 intro a hA
 refine seq_end ?_
 refine hK1 _ _ ?_
 refine wp_seq_k (fun K2 hK2 => ?_)
 refine wp_seq_k (fun K3 hK3 => ?_)
 refine wp_region_lit ?_
 refine seq_do hA rfl rfl rfl (does_move rfl) ?_
 intro a hA
 refine seq_end ?_
 refine hK3 _ _ ?_
 refine wp_block ?_
 refine wp_seq_k (fun K4 hK4 => ?_)
 refine wp_region_lit ?_
 rcases Bool.eq_false_or_eq_true ((k == 2)) with hb5 | hb5
 · have hb5' := eq_of_beq hb5
   refine seq_do (v := .bool true) hA rfl rfl rfl (does_bin rfl rfl (fun w => (bin_eql w).trans (by rw [hb5]))) ?_
   intro a hA
   refine seq_do hA rfl rfl rfl (does_assign rfl) ?_
   intro a hA
   refine seq_end ?_
   refine hK4 _ _ ?_
   refine wp_cond_true (hA.ev rfl) ?_
   refine wp_seq_k (fun K6 hK6 => ?_)
   refine wp_region_lit ?_
   refine s_litE (e := 21) (sz := 1) (m := 1) (vs := [.int .i32 13]) hA hM rfl rfl rfl (does_buildSlice rfl (by kernel_rfl)) rfl rfl (.inl (by decide)) ?_
   intro g7 w8 hM a hA
   refine seq_do hA rfl rfl rfl (does_assign rfl) ?_
   intro a hA
   refine seq_end ?_
   refine hK6 _ _ ?_
   refine wp_ret ?_
   refine hret _ _ ?_
   refine ends (v := .slice (some ⟨g7, 0, none⟩) 1 1) hA rfl (.cons (res_tmp rfl) .nil) rfl ?_
   refine ⟨_, rfl, ?_⟩
   unfold eolsS
   repeat (first | exact hM | rw [if_pos (by omega)] | rw [if_neg (by omega)])
 · have hb5' := ne_of_beq_false hb5
   refine seq_do (v := .bool false) hA rfl rfl rfl (does_bin rfl rfl (fun w => (bin_eql w).trans (by rw [hb5]))) ?_
   intro a hA
   refine seq_do hA rfl rfl rfl (does_assign rfl) ?_
   intro a hA
   refine seq_end ?_
   refine hK4 _ _ ?_
   refine wp_cond_false (hA.ev rfl) ?_
   refine wp_seq_k (fun K9 hK9 => ?_)
   refine wp_region_lit ?_
   rcases Bool.eq_false_or_eq_true ((k == 3)) with hb10 | hb10
   · have hb10' := eq_of_beq hb10
     refine seq_do (v := .bool true) hA rfl rfl rfl (does_bin rfl rfl (fun w => (bin_eql w).trans (by rw [hb10]))) ?_
     intro a hA
     refine seq_do hA rfl rfl rfl (does_assign rfl) ?_
     intro a hA
     refine seq_end ?_
     refine hK9 _ _ ?_
     refine wp_cond_true (hA.ev rfl) ?_
     refine wp_seq_k (fun K11 hK11 => ?_)
     refine wp_region_lit ?_
     refine s_litE (e := 21) (sz := 1) (m := 2) (vs := [.int .i32 13, .int .i32 10]) hA hM rfl rfl rfl (does_buildSlice rfl (by kernel_rfl)) rfl rfl (.inl (by decide)) ?_
     intro g12 w13 hM a hA
     refine seq_do hA rfl rfl rfl (does_assign rfl) ?_
     intro a hA
     refine seq_end ?_
     refine hK11 _ _ ?_
     refine wp_ret ?_
     refine hret _ _ ?_
     refine ends (v := .slice (some ⟨g12, 0, none⟩) 2 2) hA rfl (.cons (res_tmp rfl) .nil) rfl ?_
     refine ⟨_, rfl, ?_⟩
     unfold eolsS
     repeat (first | exact hM | rw [if_pos (by omega)] | rw [if_neg (by omega)])
   · have hb10' := ne_of_beq_false hb10
     refine seq_do (v := .bool false) hA rfl rfl rfl (does_bin rfl rfl (fun w => (bin_eql w).trans (by rw [hb10]))) ?_
     intro a hA
     refine seq_do hA rfl rfl rfl (does_assign rfl) ?_
     intro a hA
     refine seq_end ?_
     refine hK9 _ _ ?_
     refine wp_cond_false (hA.ev rfl) ?_
     refine wp_seq_k (fun K14 hK14 => ?_)
     refine wp_region_lit ?_
     rcases Bool.eq_false_or_eq_true ((k == 4)) with hb15 | hb15
     · have hb15' := eq_of_beq hb15
       refine seq_do (v := .bool true) hA rfl rfl rfl (does_bin rfl rfl (fun w => (bin_eql w).trans (by rw [hb15]))) ?_
       intro a hA
       refine seq_do hA rfl rfl rfl (does_assign rfl) ?_
       intro a hA
       refine seq_end ?_
       refine hK14 _ _ ?_
       refine wp_cond_true (hA.ev rfl) ?_
       refine wp_seq_k (fun K16 hK16 => ?_)
       refine wp_region_lit ?_
       refine s_litE (e := 21) (sz := 1) (m := 1) (vs := [.int .i32 133]) hA hM rfl rfl rfl (does_buildSlice rfl (by kernel_rfl)) rfl rfl (.inl (by decide)) ?_
       intro g17 w18 hM a hA
       refine seq_do hA rfl rfl rfl (does_assign rfl) ?_
       intro a hA
       refine seq_end ?_
       refine hK16 _ _ ?_
       refine wp_ret ?_
       refine hret _ _ ?_
       refine ends (v := .slice (some ⟨g17, 0, none⟩) 1 1) hA rfl (.cons (res_tmp rfl) .nil) rfl ?_
       refine ⟨_, rfl, ?_⟩
       unfold eolsS
       repeat (first | exact hM | rw [if_pos (by omega)] | rw [if_neg (by omega)])
     · have hb15' := ne_of_beq_false hb15
       refine seq_do (v := .bool false) hA rfl rfl rfl (does_bin rfl rfl (fun w => (bin_eql w).trans (by rw [hb15]))) ?_
       intro a hA
       refine seq_do hA rfl rfl rfl (does_assign rfl) ?_
       intro a hA
       refine seq_end ?_
       refine hK14 _ _ ?_
       refine wp_cond_false (hA.ev rfl) ?_
       refine wp_seq_k (fun K19 hK19 => ?_)
       refine wp_region_lit ?_
       rcases Bool.eq_false_or_eq_true ((k == 5)) with hb20 | hb20
       · have hb20' := eq_of_beq hb20
         refine seq_do (v := .bool true) hA rfl rfl rfl (does_bin rfl rfl (fun w => (bin_eql w).trans (by rw [hb20]))) ?_
         intro a hA
         refine seq_do hA rfl rfl rfl (does_assign rfl) ?_
         intro a hA
         refine seq_end ?_
         refine hK19 _ _ ?_
         refine wp_cond_true (hA.ev rfl) ?_
         refine wp_seq_k (fun K21 hK21 => ?_)
         refine wp_region_lit ?_
         refine s_litE (e := 21) (sz := 1) (m := 1) (vs := [.int .i32 8232]) hA hM rfl rfl rfl (does_buildSlice rfl (by kernel_rfl)) rfl rfl (.inl (by decide)) ?_
         intro g22 w23 hM a hA
         refine seq_do hA rfl rfl rfl (does_assign rfl) ?_
         intro a hA
         refine seq_end ?_
         refine hK21 _ _ ?_
         refine wp_ret ?_
         refine hret _ _ ?_
         refine ends (v := .slice (some ⟨g22, 0, none⟩) 1 1) hA rfl (.cons (res_tmp rfl) .nil) rfl ?_
         refine ⟨_, rfl, ?_⟩
         unfold eolsS
         repeat (first | exact hM | rw [if_pos (by omega)] | rw [if_neg (by omega)])
       · have hb20' := ne_of_beq_false hb20
         refine seq_do (v := .bool false) hA rfl rfl rfl (does_bin rfl rfl (fun w => (bin_eql w).trans (by rw [hb20]))) ?_
         intro a hA
         refine seq_do hA rfl rfl rfl (does_assign rfl) ?_
         intro a hA
         refine seq_end ?_
         refine hK19 _ _ ?_
         refine wp_cond_false (hA.ev rfl) ?_
         refine wp_skip ?_
         refine hK2 _ _ ?_
         refine wp_seq_k (fun K24 hK24 => ?_)
         refine wp_region_lit ?_
         refine s_litE (e := 21) (sz := 1) (m := 1) (vs := [.int .i32 10]) hA hM rfl rfl rfl (does_buildSlice rfl (by kernel_rfl)) rfl rfl (.inl (by decide)) ?_
         intro g25 w26 hM a hA
         refine seq_do hA rfl rfl rfl (does_assign rfl) ?_
         intro a hA
         refine seq_end ?_
         refine hK24 _ _ ?_
         refine wp_ret ?_
         refine hret _ _ ?_
         refine ends (v := .slice (some ⟨g25, 0, none⟩) 1 1) hA rfl (.cons (res_tmp rfl) .nil) rfl ?_
         refine ⟨_, rfl, ?_⟩
         unfold eolsS
         repeat (first | exact hM | rw [if_pos (by omega)] | rw [if_neg (by omega)])
theorem mask_r {x : Int} (h0 : 0 ≤ x) (h1 : x ≤ 2147483647) : bits .and .i32 x 63 = x % 64 := by
  obtain ⟨n, rfl⟩ : ∃ n : Nat, x = (n : Int) := ⟨x.toNat, by omega⟩
  have h2 : n &&& 63 = n % 64 := Nat.and_two_pow_sub_one_eq_mod n 6
  have e : (BitVec.ofInt IntKind.i32.bits (n : Int) &&& BitVec.ofInt IntKind.i32.bits (63 : Int)).toNat = n % 64 := by
    rw [← h2, BitVec.ofInt_natCast, show (63 : Int) = ((63 : Nat) : Int) from rfl, BitVec.ofInt_natCast, BitVec.toNat_and, BitVec.toNat_ofNat, BitVec.toNat_ofNat]
    show n % 4294967296 &&& 63 % 4294967296 = _
    rw [Nat.mod_eq_of_lt (by omega)]
  show IntKind.i32.wrap ((BitVec.ofInt IntKind.i32.bits (n : Int) &&& BitVec.ofInt IntKind.i32.bits (63 : Int)).toNat : Int) = _
  rw [e]
  exact (in_i32 (by omega) (by omega)).trans (by omega)
theorem or_r {x c : Int} (i a : Nat) (hc : c = ((2 ^ i * a : Nat) : Int)) (hs : c ≤ 255) (h0 : 0 ≤ x) (h1 : x < ((2 ^ i : Nat) : Int)) (h2 : x ≤ 255) : bits .or .i32 c x = c + x := by
  obtain ⟨n, rfl⟩ : ∃ n : Nat, x = (n : Int) := ⟨x.toNat, by omega⟩
  subst hc
  have := Nat.two_pow_add_eq_or_of_lt (i := i) (b := n) (by omega) a
  rw [or_i32 (2 ^ i * a) n (by omega) (by omega), ← this]
  omega
/-- The bytes of a character, as the document writes them. -/
def rputS (c r : Int) : List UInt8 := if hasS c r = true then encC c r else []
theorem enc_1 {r : Int} (h0 : 0 ≤ r) (h : r ≤ 127) : encC 1 r = [b8 r] := by unfold encC Lib.encodeRune; rw [if_neg (by decide), if_neg (by decide), Lib.encodeRuneZ_one h0 h]; rfl
theorem enc_2 {r : Int} (h0 : 128 ≤ r) (h : r ≤ 2047) : encC 1 r = [b8 (192 + r / 64), b8 (128 + r % 64)] := by unfold encC Lib.encodeRune; rw [if_neg (by decide), if_neg (by decide), Lib.encodeRuneZ_two h0 h]; rfl
theorem enc_3 {r : Int} (h : (2048 ≤ r ∧ r < 55296) ∨ (57343 < r ∧ r ≤ 65535)) : encC 1 r = [b8 (224 + r / 4096), b8 (128 + r / 64 % 64), b8 (128 + r % 64)] := by unfold encC Lib.encodeRune; rw [if_neg (by decide), if_neg (by decide), Lib.encodeRuneZ_three h]; rfl
theorem enc_4 {r : Int} (h0 : 65536 ≤ r) (h : r ≤ 1114111) : encC 1 r = [b8 (240 + r / 262144), b8 (128 + r / 4096 % 64), b8 (128 + r / 64 % 64), b8 (128 + r % 64)] := by unfold encC Lib.encodeRune; rw [if_neg (by decide), if_neg (by decide), Lib.encodeRuneZ_four h0 h]; rfl
theorem enc_latin (r : Int) : encC 2 r = [b8 r] := by unfold encC; rw [if_pos rfl]
theorem rput_any {w : World} {c r : Int} (hc : 1 ≤ c ∧ c ≤ 3) (hr : OkC r) : Calls Try.prog 51 #[.int .i64 c, .int .i32 r] w fun e w' => ∃ v, e = .returned v ∧ Mg w w' [.row BY 1 v (rputS c r).length (Lib.byteCells (rputS c r))] := by
 unfold OkC at hr
 have k1 : hiH r = 55296 + (r - 65536) / 1024 := rfl
 have k2 : loH r = 56320 + (r - 65536) % 1024 := rfl
 have hM : Mg w w ([]) := Mg.start w
 refine walk_of (l := [(0, .int .i64 c), (1, .int .i32 r)]) Try.func51 rfl Try.ntmps51 rfl rfl ?_
 intro Q hret hnorm hP a hA
 refine wp_seq_k (fun K1 hK1 => ?_)
 refine wp_region_lit ?_
 refine seq_do hA rfl rfl rfl (does_assign rfl) ?_
 intro a hA
 refine seq_end ?_
 refine hK1 _ _ ?_
 refine wp_seq_k (fun K2 hK2 => ?_)
 refine wp_block ?_
 refine wp_seq_k (fun K3 hK3 => ?_)
 refine wp_region_lit ?_
 refine seq_do hA rfl rfl rfl (does_move rfl) ?_
 intro a hA
 rcases Bool.eq_false_or_eq_true ((c == 2)) with hb4 | hb4
 · have hb4' := eq_of_beq hb4
   refine seq_do (v := .bool true) hA rfl rfl rfl (does_bin rfl rfl (fun w => (bin_eql w).trans (by rw [hb4]))) ?_
   intro a hA
   refine seq_do hA rfl rfl rfl (does_move rfl) ?_
   intro a hA
   refine seq_do hA rfl rfl rfl (does_move rfl) ?_
   intro a hA
   rcases Bool.eq_false_or_eq_true (decide (255 < r)) with hb5 | hb5
   · have hb5' := of_decide_eq_true hb5
     refine seq_do (v := .bool true) hA rfl rfl rfl (does_bin rfl rfl (fun w => (bin_gtr w).trans (by rw [hb5]))) ?_
     intro a hA
     refine seq_do (v := .bool true) hA rfl rfl rfl (does_pick rfl rfl rfl rfl) ?_
     intro a hA
     refine seq_do hA rfl rfl rfl (does_assign rfl) ?_
     intro a hA
     refine seq_end ?_
     refine hK3 _ _ ?_
     refine wp_cond_true (hA.ev rfl) ?_
     refine wp_seq_k (fun K6 hK6 => ?_)
     refine wp_region_lit ?_
     refine seq_do hA rfl rfl rfl (does_assign rfl) ?_
     intro a hA
     refine seq_end ?_
     refine hK6 _ _ ?_
     refine wp_ret ?_
     refine hret _ _ ?_
     refine ends (v := .slice none 0 0) hA rfl (.cons (res_tmp rfl) .nil) rfl ?_
     have h5 : rputS c r = [] := by unfold rputS; rw [if_neg (by unfold hasS; simp; omega)]
     rw [h5]
     exact ⟨_, rfl, nil_end hM⟩
   · have hb5' := of_decide_eq_false hb5
     refine seq_do (v := .bool false) hA rfl rfl rfl (does_bin rfl rfl (fun w => (bin_gtr w).trans (by rw [hb5]))) ?_
     intro a hA
     refine seq_do (v := .bool false) hA rfl rfl rfl (does_pick rfl rfl rfl rfl) ?_
     intro a hA
     refine seq_do hA rfl rfl rfl (does_assign rfl) ?_
     intro a hA
     refine seq_end ?_
     refine hK3 _ _ ?_
     refine wp_cond_false (hA.ev rfl) ?_
     refine wp_seq_k (fun K7 hK7 => ?_)
     refine wp_region_lit ?_
     refine seq_do hA rfl rfl rfl (does_move rfl) ?_
     intro a hA
     refine seq_do (v := .bool true) hA rfl rfl rfl (does_bin rfl rfl (fun w => (bin_eql w).trans (by rw [show ((c == 2)) = true from hb4]))) ?_
     intro a hA
     refine seq_do hA rfl rfl rfl (does_move rfl) ?_
     intro a hA
     refine seq_skip hA rfl rfl rfl ?_
     intro a hA
     refine seq_skip hA rfl rfl rfl ?_
     intro a hA
     refine seq_skip hA rfl rfl rfl ?_
     intro a hA
     refine seq_skipU hA rfl rfl rfl ?_
     intro a hA
     refine seq_skipU hA rfl rfl rfl ?_
     intro a hA
     refine seq_skip hA rfl rfl rfl ?_
     intro a hA
     refine seq_do (v := .bool true) hA rfl rfl rfl (does_pick rfl rfl rfl rfl) ?_
     intro a hA
     refine seq_do hA rfl rfl rfl (does_assign rfl) ?_
     intro a hA
     refine seq_end ?_
     refine hK7 _ _ ?_
     refine wp_cond_true (hA.ev rfl) ?_
     refine wp_seq_k (fun K8 hK8 => ?_)
     refine wp_region_lit ?_
     refine seq_do hA rfl rfl rfl (does_move rfl) ?_
     intro a hA
     refine seq_do (v := .int .u8 r) hA rfl rfl rfl (does_convert rfl (ar_conv Try.underlying21 Try.underlying5 (in_u8 (by omega) (by omega)))) ?_
     intro a hA
     refine s_lit (vs := [.int .u8 r]) hA hM rfl rfl rfl (does_buildSlice rfl (by kernel_rfl)) rfl rfl (noBld_quiet quietL_nil) ?_
     intro g9 w10 hM a hA
     refine seq_do hA rfl rfl rfl (does_assign rfl) ?_
     intro a hA
     refine seq_end ?_
     refine hK8 _ _ ?_
     refine wp_ret ?_
     refine hret _ _ ?_
     refine ends (v := .slice (some ⟨g9, 0, none⟩) 1 1) hA rfl (.cons (res_tmp rfl) .nil) rfl ?_
     obtain rfl : c = 2 := by omega
     have h5 : rputS 2 r = [b8 (r)] := by
       unfold rputS
       rw [if_pos (by unfold hasS; simp; try omega)]
       exact enc_latin r
     rw [h5]
     exact ⟨_, rfl, by simpa [Lib.byteCells, b8_val (z := r) (by omega) (by omega)] using hM⟩
 · have hb4' := ne_of_beq_false hb4
   refine seq_do (v := .bool false) hA rfl rfl rfl (does_bin rfl rfl (fun w => (bin_eql w).trans (by rw [hb4]))) ?_
   intro a hA
   refine seq_do hA rfl rfl rfl (does_move rfl) ?_
   intro a hA
   refine seq_skip hA rfl rfl rfl ?_
   intro a hA
   refine seq_skip hA rfl rfl rfl ?_
   intro a hA
   refine seq_do (v := .bool false) hA rfl rfl rfl (does_pick rfl rfl rfl rfl) ?_
   intro a hA
   refine seq_do hA rfl rfl rfl (does_assign rfl) ?_
   intro a hA
   refine seq_end ?_
   refine hK3 _ _ ?_
   refine wp_cond_false (hA.ev rfl) ?_
   refine wp_seq_k (fun K11 hK11 => ?_)
   refine wp_region_lit ?_
   refine seq_do hA rfl rfl rfl (does_move rfl) ?_
   intro a hA
   refine seq_do (v := .bool false) hA rfl rfl rfl (does_bin rfl rfl (fun w => (bin_eql w).trans (by rw [show ((c == 2)) = false from hb4]))) ?_
   intro a hA
   refine seq_do hA rfl rfl rfl (does_move rfl) ?_
   intro a hA
   refine seq_do hA rfl rfl rfl (does_move rfl) ?_
   intro a hA
   rcases Bool.eq_false_or_eq_true ((c == 1)) with hb12 | hb12
   · have hb12' := eq_of_beq hb12
     refine seq_do (v := .bool true) hA rfl rfl rfl (does_bin rfl rfl (fun w => (bin_eql w).trans (by rw [hb12]))) ?_
     intro a hA
     refine seq_do hA rfl rfl rfl (does_move rfl) ?_
     intro a hA
     refine seq_do hA rfl rfl rfl (does_move rfl) ?_
     intro a hA
     rcases Bool.eq_false_or_eq_true (decide (r < 128)) with hb13 | hb13
     · have hb13' := of_decide_eq_true hb13
       refine seq_do (v := .bool true) hA rfl rfl rfl (does_bin rfl rfl (fun w => (bin_lss w).trans (by rw [hb13]))) ?_
       intro a hA
       refine seq_do (v := .bool true) hA rfl rfl rfl (does_pick rfl rfl rfl rfl) ?_
       intro a hA
       refine seq_do (v := .bool true) hA rfl rfl rfl (does_pick rfl rfl rfl rfl) ?_
       intro a hA
       refine seq_do hA rfl rfl rfl (does_assign rfl) ?_
       intro a hA
       refine seq_end ?_
       refine hK11 _ _ ?_
       refine wp_cond_true (hA.ev rfl) ?_
       refine wp_seq_k (fun K14 hK14 => ?_)
       refine wp_region_lit ?_
       refine seq_do hA rfl rfl rfl (does_move rfl) ?_
       intro a hA
       refine seq_do (v := .int .u8 r) hA rfl rfl rfl (does_convert rfl (ar_conv Try.underlying21 Try.underlying5 (in_u8 (by omega) (by omega)))) ?_
       intro a hA
       refine s_lit (vs := [.int .u8 r]) hA hM rfl rfl rfl (does_buildSlice rfl (by kernel_rfl)) rfl rfl (noBld_quiet quietL_nil) ?_
       intro g15 w16 hM a hA
       refine seq_do hA rfl rfl rfl (does_assign rfl) ?_
       intro a hA
       refine seq_end ?_
       refine hK14 _ _ ?_
       refine wp_ret ?_
       refine hret _ _ ?_
       refine ends (v := .slice (some ⟨g15, 0, none⟩) 1 1) hA rfl (.cons (res_tmp rfl) .nil) rfl ?_
       obtain rfl : c = 1 := by omega
       have h5 : rputS 1 r = [b8 (r)] := by
         unfold rputS
         rw [if_pos (by unfold hasS; simp; try omega)]
         exact enc_1 (by omega) (by omega)
       rw [h5]
       exact ⟨_, rfl, by simpa [Lib.byteCells, b8_val (z := r) (by omega) (by omega)] using hM⟩
     · have hb13' := of_decide_eq_false hb13
       refine seq_do (v := .bool false) hA rfl rfl rfl (does_bin rfl rfl (fun w => (bin_lss w).trans (by rw [hb13]))) ?_
       intro a hA
       refine seq_do (v := .bool false) hA rfl rfl rfl (does_pick rfl rfl rfl rfl) ?_
       intro a hA
       refine seq_do (v := .bool false) hA rfl rfl rfl (does_pick rfl rfl rfl rfl) ?_
       intro a hA
       refine seq_do hA rfl rfl rfl (does_assign rfl) ?_
       intro a hA
       refine seq_end ?_
       refine hK11 _ _ ?_
       refine wp_cond_false (hA.ev rfl) ?_
       refine wp_seq_k (fun K17 hK17 => ?_)
       refine wp_region_lit ?_
       refine seq_do hA rfl rfl rfl (does_move rfl) ?_
       intro a hA
       refine seq_do (v := .bool true) hA rfl rfl rfl (does_bin rfl rfl (fun w => (bin_eql w).trans (by rw [show ((c == 1)) = true from hb12]))) ?_
       intro a hA
       refine seq_do hA rfl rfl rfl (does_move rfl) ?_
       intro a hA
       refine seq_do hA rfl rfl rfl (does_move rfl) ?_
       intro a hA
       rcases Bool.eq_false_or_eq_true (decide (r < 2048)) with hb18 | hb18
       · have hb18' := of_decide_eq_true hb18
         refine seq_do (v := .bool true) hA rfl rfl rfl (does_bin rfl rfl (fun w => (bin_lss w).trans (by rw [hb18]))) ?_
         intro a hA
         refine seq_do (v := .bool true) hA rfl rfl rfl (does_pick rfl rfl rfl rfl) ?_
         intro a hA
         refine seq_do hA rfl rfl rfl (does_assign rfl) ?_
         intro a hA
         refine seq_end ?_
         refine hK17 _ _ ?_
         refine wp_cond_true (hA.ev rfl) ?_
         refine wp_seq_k (fun K19 hK19 => ?_)
         refine wp_region_lit ?_
         refine seq_do hA rfl rfl rfl (does_move rfl) ?_
         intro a hA
         refine seq_do (v := .int .i32 (r / 64)) hA rfl rfl rfl (does_bin rfl rfl (ar_shr (n := 6) rfl rfl rfl)) ?_
         intro a hA
         refine seq_do (v := .int .i32 (192 + (r / 64))) hA rfl rfl rfl (does_bin rfl rfl (ar_or (or_r 5 6 rfl (by decide) (by omega) (by omega) (by omega)))) ?_
         intro a hA
         refine seq_do (v := .int .u8 (192 + (r / 64))) hA rfl rfl rfl (does_convert rfl (ar_conv Try.underlying21 Try.underlying5 (in_u8 (by omega) (by omega)))) ?_
         intro a hA
         refine seq_do hA rfl rfl rfl (does_move rfl) ?_
         intro a hA
         refine seq_do (v := .int .i32 (r % 64)) hA rfl rfl rfl (does_bin rfl rfl (ar_and (mask_r (by omega) (by omega)))) ?_
         intro a hA
         refine seq_do (v := .int .i32 (128 + (r % 64))) hA rfl rfl rfl (does_bin rfl rfl (ar_or (or_r 6 2 rfl (by decide) (by omega) (by omega) (by omega)))) ?_
         intro a hA
         refine seq_do (v := .int .u8 (128 + (r % 64))) hA rfl rfl rfl (does_convert rfl (ar_conv Try.underlying21 Try.underlying5 (in_u8 (by omega) (by omega)))) ?_
         intro a hA
         refine s_lit (vs := [.int .u8 (192 + (r / 64)), .int .u8 (128 + (r % 64))]) hA hM rfl rfl rfl (does_buildSlice rfl (by kernel_rfl)) rfl rfl (noBld_quiet quietL_nil) ?_
         intro g20 w21 hM a hA
         refine seq_do hA rfl rfl rfl (does_assign rfl) ?_
         intro a hA
         refine seq_end ?_
         refine hK19 _ _ ?_
         refine wp_ret ?_
         refine hret _ _ ?_
         refine ends (v := .slice (some ⟨g20, 0, none⟩) 2 2) hA rfl (.cons (res_tmp rfl) .nil) rfl ?_
         obtain rfl : c = 1 := by omega
         have h5 : rputS 1 r = [b8 ((192 + (r / 64))), b8 ((128 + (r % 64)))] := by
           unfold rputS
           rw [if_pos (by unfold hasS; simp; try omega)]
           exact enc_2 (by omega) (by omega)
         rw [h5]
         exact ⟨_, rfl, by simpa [Lib.byteCells, b8_val (z := (192 + (r / 64))) (by omega) (by omega), b8_val (z := (128 + (r % 64))) (by omega) (by omega)] using hM⟩
       · have hb18' := of_decide_eq_false hb18
         refine seq_do (v := .bool false) hA rfl rfl rfl (does_bin rfl rfl (fun w => (bin_lss w).trans (by rw [hb18]))) ?_
         intro a hA
         refine seq_do (v := .bool false) hA rfl rfl rfl (does_pick rfl rfl rfl rfl) ?_
         intro a hA
         refine seq_do hA rfl rfl rfl (does_assign rfl) ?_
         intro a hA
         refine seq_end ?_
         refine hK17 _ _ ?_
         refine wp_cond_false (hA.ev rfl) ?_
         refine wp_seq_k (fun K22 hK22 => ?_)
         refine wp_region_lit ?_
         refine seq_do hA rfl rfl rfl (does_move rfl) ?_
         intro a hA
         refine seq_do (v := .bool true) hA rfl rfl rfl (does_bin rfl rfl (fun w => (bin_eql w).trans (by rw [show ((c == 1)) = true from hb12]))) ?_
         intro a hA
         refine seq_do hA rfl rfl rfl (does_move rfl) ?_
         intro a hA
         refine seq_do hA rfl rfl rfl (does_move rfl) ?_
         intro a hA
         rcases Bool.eq_false_or_eq_true (decide (r < 65536)) with hb23 | hb23
         · have hb23' := of_decide_eq_true hb23
           refine seq_do (v := .bool true) hA rfl rfl rfl (does_bin rfl rfl (fun w => (bin_lss w).trans (by rw [hb23]))) ?_
           intro a hA
           refine seq_do (v := .bool true) hA rfl rfl rfl (does_pick rfl rfl rfl rfl) ?_
           intro a hA
           refine seq_do hA rfl rfl rfl (does_assign rfl) ?_
           intro a hA
           refine seq_end ?_
           refine hK22 _ _ ?_
           refine wp_cond_true (hA.ev rfl) ?_
           refine wp_seq_k (fun K24 hK24 => ?_)
           refine wp_region_lit ?_
           refine seq_do hA rfl rfl rfl (does_move rfl) ?_
           intro a hA
           refine seq_do (v := .int .i32 (r / 4096)) hA rfl rfl rfl (does_bin rfl rfl (ar_shr (n := 12) rfl rfl rfl)) ?_
           intro a hA
           refine seq_do (v := .int .i32 (224 + (r / 4096))) hA rfl rfl rfl (does_bin rfl rfl (ar_or (or_r 4 14 rfl (by decide) (by omega) (by omega) (by omega)))) ?_
           intro a hA
           refine seq_do (v := .int .u8 (224 + (r / 4096))) hA rfl rfl rfl (does_convert rfl (ar_conv Try.underlying21 Try.underlying5 (in_u8 (by omega) (by omega)))) ?_
           intro a hA
           refine seq_do hA rfl rfl rfl (does_move rfl) ?_
           intro a hA
           refine seq_do (v := .int .i32 (r / 64)) hA rfl rfl rfl (does_bin rfl rfl (ar_shr (n := 6) rfl rfl rfl)) ?_
           intro a hA
           refine seq_do (v := .int .i32 ((r / 64) % 64)) hA rfl rfl rfl (does_bin rfl rfl (ar_and (mask_r (by omega) (by omega)))) ?_
           intro a hA
           refine seq_do (v := .int .i32 (128 + ((r / 64) % 64))) hA rfl rfl rfl (does_bin rfl rfl (ar_or (or_r 6 2 rfl (by decide) (by omega) (by omega) (by omega)))) ?_
           intro a hA
           refine seq_do (v := .int .u8 (128 + ((r / 64) % 64))) hA rfl rfl rfl (does_convert rfl (ar_conv Try.underlying21 Try.underlying5 (in_u8 (by omega) (by omega)))) ?_
           intro a hA
           refine seq_do hA rfl rfl rfl (does_move rfl) ?_
           intro a hA
           refine seq_do (v := .int .i32 (r % 64)) hA rfl rfl rfl (does_bin rfl rfl (ar_and (mask_r (by omega) (by omega)))) ?_
           intro a hA
           refine seq_do (v := .int .i32 (128 + (r % 64))) hA rfl rfl rfl (does_bin rfl rfl (ar_or (or_r 6 2 rfl (by decide) (by omega) (by omega) (by omega)))) ?_
           intro a hA
           refine seq_do (v := .int .u8 (128 + (r % 64))) hA rfl rfl rfl (does_convert rfl (ar_conv Try.underlying21 Try.underlying5 (in_u8 (by omega) (by omega)))) ?_
           intro a hA
           refine s_lit (vs := [.int .u8 (224 + (r / 4096)), .int .u8 (128 + ((r / 64) % 64)), .int .u8 (128 + (r % 64))]) hA hM rfl rfl rfl (does_buildSlice rfl (by kernel_rfl)) rfl rfl (noBld_quiet quietL_nil) ?_
           intro g25 w26 hM a hA
           refine seq_do hA rfl rfl rfl (does_assign rfl) ?_
           intro a hA
           refine seq_end ?_
           refine hK24 _ _ ?_
           refine wp_ret ?_
           refine hret _ _ ?_
           refine ends (v := .slice (some ⟨g25, 0, none⟩) 3 3) hA rfl (.cons (res_tmp rfl) .nil) rfl ?_
           obtain rfl : c = 1 := by omega
           have h5 : rputS 1 r = [b8 ((224 + (r / 4096))), b8 ((128 + ((r / 64) % 64))), b8 ((128 + (r % 64)))] := by
             unfold rputS
             rw [if_pos (by unfold hasS; simp; try omega)]
             exact enc_3 (by omega)
           rw [h5]
           exact ⟨_, rfl, by simpa [Lib.byteCells, b8_val (z := (224 + (r / 4096))) (by omega) (by omega), b8_val (z := (128 + ((r / 64) % 64))) (by omega) (by omega), b8_val (z := (128 + (r % 64))) (by omega) (by omega)] using hM⟩
         · have hb23' := of_decide_eq_false hb23
           refine seq_do (v := .bool false) hA rfl rfl rfl (does_bin rfl rfl (fun w => (bin_lss w).trans (by rw [hb23]))) ?_
           intro a hA
           refine seq_do (v := .bool false) hA rfl rfl rfl (does_pick rfl rfl rfl rfl) ?_
           intro a hA
           refine seq_do hA rfl rfl rfl (does_assign rfl) ?_
           intro a hA
           refine seq_end ?_
           refine hK22 _ _ ?_
           refine wp_cond_false (hA.ev rfl) ?_
           refine wp_seq_k (fun K27 hK27 => ?_)
           refine wp_region_lit ?_
           refine seq_do hA rfl rfl rfl (does_move rfl) ?_
           intro a hA
           refine seq_do (v := .bool true) hA rfl rfl rfl (does_bin rfl rfl (fun w => (bin_eql w).trans (by rw [show ((c == 1)) = true from hb12]))) ?_
           intro a hA
           refine seq_do hA rfl rfl rfl (does_assign rfl) ?_
           intro a hA
           refine seq_end ?_
           refine hK27 _ _ ?_
           refine wp_cond_true (hA.ev rfl) ?_
           refine wp_seq_k (fun K28 hK28 => ?_)
           refine wp_region_lit ?_
           refine seq_do hA rfl rfl rfl (does_move rfl) ?_
           intro a hA
           refine seq_do (v := .int .i32 (r / 262144)) hA rfl rfl rfl (does_bin rfl rfl (ar_shr (n := 18) rfl rfl rfl)) ?_
           intro a hA
           refine seq_do (v := .int .i32 (240 + (r / 262144))) hA rfl rfl rfl (does_bin rfl rfl (ar_or (or_r 3 30 rfl (by decide) (by omega) (by omega) (by omega)))) ?_
           intro a hA
           refine seq_do (v := .int .u8 (240 + (r / 262144))) hA rfl rfl rfl (does_convert rfl (ar_conv Try.underlying21 Try.underlying5 (in_u8 (by omega) (by omega)))) ?_
           intro a hA
           refine seq_do hA rfl rfl rfl (does_move rfl) ?_
           intro a hA
           refine seq_do (v := .int .i32 (r / 4096)) hA rfl rfl rfl (does_bin rfl rfl (ar_shr (n := 12) rfl rfl rfl)) ?_
           intro a hA
           refine seq_do (v := .int .i32 ((r / 4096) % 64)) hA rfl rfl rfl (does_bin rfl rfl (ar_and (mask_r (by omega) (by omega)))) ?_
           intro a hA
           refine seq_do (v := .int .i32 (128 + ((r / 4096) % 64))) hA rfl rfl rfl (does_bin rfl rfl (ar_or (or_r 6 2 rfl (by decide) (by omega) (by omega) (by omega)))) ?_
           intro a hA
           refine seq_do (v := .int .u8 (128 + ((r / 4096) % 64))) hA rfl rfl rfl (does_convert rfl (ar_conv Try.underlying21 Try.underlying5 (in_u8 (by omega) (by omega)))) ?_
           intro a hA
           refine seq_do hA rfl rfl rfl (does_move rfl) ?_
           intro a hA
           refine seq_do (v := .int .i32 (r / 64)) hA rfl rfl rfl (does_bin rfl rfl (ar_shr (n := 6) rfl rfl rfl)) ?_
           intro a hA
           refine seq_do (v := .int .i32 ((r / 64) % 64)) hA rfl rfl rfl (does_bin rfl rfl (ar_and (mask_r (by omega) (by omega)))) ?_
           intro a hA
           refine seq_do (v := .int .i32 (128 + ((r / 64) % 64))) hA rfl rfl rfl (does_bin rfl rfl (ar_or (or_r 6 2 rfl (by decide) (by omega) (by omega) (by omega)))) ?_
           intro a hA
           refine seq_do (v := .int .u8 (128 + ((r / 64) % 64))) hA rfl rfl rfl (does_convert rfl (ar_conv Try.underlying21 Try.underlying5 (in_u8 (by omega) (by omega)))) ?_
           intro a hA
           refine seq_do hA rfl rfl rfl (does_move rfl) ?_
           intro a hA
           refine seq_do (v := .int .i32 (r % 64)) hA rfl rfl rfl (does_bin rfl rfl (ar_and (mask_r (by omega) (by omega)))) ?_
           intro a hA
           refine seq_do (v := .int .i32 (128 + (r % 64))) hA rfl rfl rfl (does_bin rfl rfl (ar_or (or_r 6 2 rfl (by decide) (by omega) (by omega) (by omega)))) ?_
           intro a hA
           refine seq_do (v := .int .u8 (128 + (r % 64))) hA rfl rfl rfl (does_convert rfl (ar_conv Try.underlying21 Try.underlying5 (in_u8 (by omega) (by omega)))) ?_
           intro a hA
           refine s_lit (vs := [.int .u8 (240 + (r / 262144)), .int .u8 (128 + ((r / 4096) % 64)), .int .u8 (128 + ((r / 64) % 64)), .int .u8 (128 + (r % 64))]) hA hM rfl rfl rfl (does_buildSlice rfl (by kernel_rfl)) rfl rfl (noBld_quiet quietL_nil) ?_
           intro g29 w30 hM a hA
           refine seq_do hA rfl rfl rfl (does_assign rfl) ?_
           intro a hA
           refine seq_end ?_
           refine hK28 _ _ ?_
           refine wp_ret ?_
           refine hret _ _ ?_
           refine ends (v := .slice (some ⟨g29, 0, none⟩) 4 4) hA rfl (.cons (res_tmp rfl) .nil) rfl ?_
           obtain rfl : c = 1 := by omega
           have h5 : rputS 1 r = [b8 ((240 + (r / 262144))), b8 ((128 + ((r / 4096) % 64))), b8 ((128 + ((r / 64) % 64))), b8 ((128 + (r % 64)))] := by
             unfold rputS
             rw [if_pos (by unfold hasS; simp; try omega)]
             exact enc_4 (by omega) (by omega)
           rw [h5]
           exact ⟨_, rfl, by simpa [Lib.byteCells, b8_val (z := (240 + (r / 262144))) (by omega) (by omega), b8_val (z := (128 + ((r / 4096) % 64))) (by omega) (by omega), b8_val (z := (128 + ((r / 64) % 64))) (by omega) (by omega), b8_val (z := (128 + (r % 64))) (by omega) (by omega)] using hM⟩
   · have hb12' := ne_of_beq_false hb12
     refine seq_do (v := .bool false) hA rfl rfl rfl (does_bin rfl rfl (fun w => (bin_eql w).trans (by rw [hb12]))) ?_
     intro a hA
     refine seq_do hA rfl rfl rfl (does_move rfl) ?_
     intro a hA
     refine seq_skip hA rfl rfl rfl ?_
     intro a hA
     refine seq_skip hA rfl rfl rfl ?_
     intro a hA
     refine seq_do (v := .bool false) hA rfl rfl rfl (does_pick rfl rfl rfl rfl) ?_
     intro a hA
     refine seq_do (v := .bool false) hA rfl rfl rfl (does_pick rfl rfl rfl rfl) ?_
     intro a hA
     refine seq_do hA rfl rfl rfl (does_assign rfl) ?_
     intro a hA
     refine seq_end ?_
     refine hK11 _ _ ?_
     refine wp_cond_false (hA.ev rfl) ?_
     refine wp_seq_k (fun K31 hK31 => ?_)
     refine wp_region_lit ?_
     refine seq_do hA rfl rfl rfl (does_move rfl) ?_
     intro a hA
     refine seq_do (v := .bool false) hA rfl rfl rfl (does_bin rfl rfl (fun w => (bin_eql w).trans (by rw [show ((c == 1)) = false from hb12]))) ?_
     intro a hA
     refine seq_do hA rfl rfl rfl (does_move rfl) ?_
     intro a hA
     refine seq_skip hA rfl rfl rfl ?_
     intro a hA
     refine seq_skip hA rfl rfl rfl ?_
     intro a hA
     refine seq_do (v := .bool false) hA rfl rfl rfl (does_pick rfl rfl rfl rfl) ?_
     intro a hA
     refine seq_do hA rfl rfl rfl (does_assign rfl) ?_
     intro a hA
     refine seq_end ?_
     refine hK31 _ _ ?_
     refine wp_cond_false (hA.ev rfl) ?_
     refine wp_seq_k (fun K32 hK32 => ?_)
     refine wp_region_lit ?_
     refine seq_do hA rfl rfl rfl (does_move rfl) ?_
     intro a hA
     refine seq_do (v := .bool false) hA rfl rfl rfl (does_bin rfl rfl (fun w => (bin_eql w).trans (by rw [show ((c == 1)) = false from hb12]))) ?_
     intro a hA
     refine seq_do hA rfl rfl rfl (does_move rfl) ?_
     intro a hA
     refine seq_skip hA rfl rfl rfl ?_
     intro a hA
     refine seq_skip hA rfl rfl rfl ?_
     intro a hA
     refine seq_do (v := .bool false) hA rfl rfl rfl (does_pick rfl rfl rfl rfl) ?_
     intro a hA
     refine seq_do hA rfl rfl rfl (does_assign rfl) ?_
     intro a hA
     refine seq_end ?_
     refine hK32 _ _ ?_
     refine wp_cond_false (hA.ev rfl) ?_
     refine wp_seq_k (fun K33 hK33 => ?_)
     refine wp_region_lit ?_
     refine seq_do hA rfl rfl rfl (does_move rfl) ?_
     intro a hA
     refine seq_do (v := .bool false) hA rfl rfl rfl (does_bin rfl rfl (fun w => (bin_eql w).trans (by rw [show ((c == 1)) = false from hb12]))) ?_
     intro a hA
     refine seq_do hA rfl rfl rfl (does_assign rfl) ?_
     intro a hA
     refine seq_end ?_
     refine hK33 _ _ ?_
     refine wp_cond_false (hA.ev rfl) ?_
     refine wp_seq_k (fun K34 hK34 => ?_)
     refine wp_region_lit ?_
     refine seq_do hA rfl rfl rfl (does_move rfl) ?_
     intro a hA
     rcases Bool.eq_false_or_eq_true (decide (r < 65536)) with hb35 | hb35
     · have hb35' := of_decide_eq_true hb35
       refine seq_do (v := .bool true) hA rfl rfl rfl (does_bin rfl rfl (fun w => (bin_lss w).trans (by rw [hb35]))) ?_
       intro a hA
       refine seq_do hA rfl rfl rfl (does_assign rfl) ?_
       intro a hA
       refine seq_end ?_
       refine hK34 _ _ ?_
       refine wp_cond_true (hA.ev rfl) ?_
       refine wp_seq_k (fun K36 hK36 => ?_)
       refine wp_region_lit ?_
       refine seq_do hA rfl rfl rfl (does_move rfl) ?_
       intro a hA
       refine seq_do (v := .int .i32 (r / 256)) hA rfl rfl rfl (does_bin rfl rfl (ar_shr (n := 8) rfl rfl rfl)) ?_
       intro a hA
       refine seq_do (v := .int .u8 (r / 256)) hA rfl rfl rfl (does_convert rfl (ar_conv Try.underlying21 Try.underlying5 (in_u8 (by omega) (by omega)))) ?_
       intro a hA
       refine seq_do hA rfl rfl rfl (does_move rfl) ?_
       intro a hA
       refine seq_do (v := .int .u8 (r % 256)) hA rfl rfl rfl (does_convert rfl (ar_conv Try.underlying21 Try.underlying5 (by rw [IntKind.wrap_u8]))) ?_
       intro a hA
       refine s_lit (vs := [.int .u8 (r / 256), .int .u8 (r % 256)]) hA hM rfl rfl rfl (does_buildSlice rfl (by kernel_rfl)) rfl rfl (noBld_quiet quietL_nil) ?_
       intro g37 w38 hM a hA
       refine seq_do hA rfl rfl rfl (does_assign rfl) ?_
       intro a hA
       refine seq_end ?_
       refine hK36 _ _ ?_
       refine wp_ret ?_
       refine hret _ _ ?_
       refine ends (v := .slice (some ⟨g37, 0, none⟩) 2 2) hA rfl (.cons (res_tmp rfl) .nil) rfl ?_
       obtain rfl : c = 3 := by omega
       have h5 : rputS 3 r = [b8 (r / 256), b8 (r % 256)] := by
         unfold rputS
         rw [if_pos (by unfold hasS; simp; try omega)]
         exact enc16_small (by omega)
       rw [h5]
       exact ⟨_, rfl, by simpa [Lib.byteCells, b8_val (z := r / 256) (by omega) (by omega), b8_val (z := r % 256) (by omega) (by omega)] using hM⟩
     · have hb35' := of_decide_eq_false hb35
       refine seq_do (v := .bool false) hA rfl rfl rfl (does_bin rfl rfl (fun w => (bin_lss w).trans (by rw [hb35]))) ?_
       intro a hA
       refine seq_do hA rfl rfl rfl (does_assign rfl) ?_
       intro a hA
       refine seq_end ?_
       refine hK34 _ _ ?_
       refine wp_cond_false (hA.ev rfl) ?_
       refine wp_skip ?_
       refine hK2 _ _ ?_
       refine wp_seq_k (fun K39 hK39 => ?_)
       refine wp_region_lit ?_
       refine seq_do hA rfl rfl rfl (does_move rfl) ?_
       intro a hA
       refine seq_do (v := .int .i32 (r - 65536)) hA rfl rfl rfl (does_bin rfl rfl (ar_sub (in_i32 (by omega) (by omega)))) ?_
       intro a hA
       refine seq_do (v := .int .i32 ((r - 65536) / 1024)) hA rfl rfl rfl (does_bin rfl rfl (ar_quo (by decide) ((congrArg IntKind.i32.wrap (Int.tdiv_eq_ediv_of_nonneg (by omega))).trans (in_i32 (by omega) (by omega))))) ?_
       intro a hA
       refine seq_do (v := .int .i32 (hiH r)) hA rfl rfl rfl (does_bin rfl rfl (ar_add (show IntKind.i32.wrap (55296 + (r - 65536) / 1024) = hiH r from in_i32 (by omega) (by omega)))) ?_
       intro a hA
       refine seq_do hA rfl rfl rfl (does_assign rfl) ?_
       intro a hA
       refine seq_end ?_
       refine hK39 _ _ ?_
       refine wp_seq_k (fun K40 hK40 => ?_)
       refine wp_region_lit ?_
       refine seq_do hA rfl rfl rfl (does_move rfl) ?_
       intro a hA
       refine seq_do (v := .int .i32 (r - 65536)) hA rfl rfl rfl (does_bin rfl rfl (ar_sub (in_i32 (by omega) (by omega)))) ?_
       intro a hA
       refine seq_do (v := .int .i32 ((r - 65536) % 1024)) hA rfl rfl rfl (does_bin rfl rfl (ar_rem (by decide) (Int.tmod_eq_emod_of_nonneg (by omega)))) ?_
       intro a hA
       refine seq_do (v := .int .i32 (loH r)) hA rfl rfl rfl (does_bin rfl rfl (ar_add (show IntKind.i32.wrap (56320 + (r - 65536) % 1024) = loH r from in_i32 (by omega) (by omega)))) ?_
       intro a hA
       refine seq_do hA rfl rfl rfl (does_assign rfl) ?_
       intro a hA
       refine seq_end ?_
       refine hK40 _ _ ?_
       refine wp_seq_k (fun K41 hK41 => ?_)
       refine wp_region_lit ?_
       refine seq_do hA rfl rfl rfl (does_move rfl) ?_
       intro a hA
       refine seq_do (v := .int .i32 ((hiH r) / 256)) hA rfl rfl rfl (does_bin rfl rfl (ar_shr (n := 8) rfl rfl rfl)) ?_
       intro a hA
       refine seq_do (v := .int .u8 ((hiH r) / 256)) hA rfl rfl rfl (does_convert rfl (ar_conv Try.underlying21 Try.underlying5 (in_u8 (by omega) (by omega)))) ?_
       intro a hA
       refine seq_do hA rfl rfl rfl (does_move rfl) ?_
       intro a hA
       refine seq_do (v := .int .u8 ((hiH r) % 256)) hA rfl rfl rfl (does_convert rfl (ar_conv Try.underlying21 Try.underlying5 (by rw [IntKind.wrap_u8]))) ?_
       intro a hA
       refine seq_do hA rfl rfl rfl (does_move rfl) ?_
       intro a hA
       refine seq_do (v := .int .i32 ((loH r) / 256)) hA rfl rfl rfl (does_bin rfl rfl (ar_shr (n := 8) rfl rfl rfl)) ?_
       intro a hA
       refine seq_do (v := .int .u8 ((loH r) / 256)) hA rfl rfl rfl (does_convert rfl (ar_conv Try.underlying21 Try.underlying5 (in_u8 (by omega) (by omega)))) ?_
       intro a hA
       refine seq_do hA rfl rfl rfl (does_move rfl) ?_
       intro a hA
       refine seq_do (v := .int .u8 ((loH r) % 256)) hA rfl rfl rfl (does_convert rfl (ar_conv Try.underlying21 Try.underlying5 (by rw [IntKind.wrap_u8]))) ?_
       intro a hA
       refine s_lit (vs := [.int .u8 ((hiH r) / 256), .int .u8 ((hiH r) % 256), .int .u8 ((loH r) / 256), .int .u8 ((loH r) % 256)]) hA hM rfl rfl rfl (does_buildSlice rfl (by kernel_rfl)) rfl rfl (noBld_quiet quietL_nil) ?_
       intro g42 w43 hM a hA
       refine seq_do hA rfl rfl rfl (does_assign rfl) ?_
       intro a hA
       refine seq_end ?_
       refine hK41 _ _ ?_
       refine wp_ret ?_
       refine hret _ _ ?_
       refine ends (v := .slice (some ⟨g42, 0, none⟩) 4 4) hA rfl (.cons (res_tmp rfl) .nil) rfl ?_
       obtain rfl : c = 3 := by omega
       have h5 : rputS 3 r = [b8 (((hiH r) / 256)), b8 (((hiH r) % 256)), b8 (((loH r) / 256)), b8 (((loH r) % 256))] := by
         unfold rputS
         rw [if_pos (by unfold hasS; simp; try omega)]
         exact enc16_great (by omega)
       rw [h5]
       exact ⟨_, rfl, by simpa [Lib.byteCells, b8_val (z := ((hiH r) / 256)) (by omega) (by omega), b8_val (z := ((hiH r) % 256)) (by omega) (by omega), b8_val (z := ((loH r) / 256)) (by omega) (by omega), b8_val (z := ((loH r) % 256)) (by omega) (by omega)] using hM⟩
end Go.Proofs.Ytcjgjbaadmohbaa
