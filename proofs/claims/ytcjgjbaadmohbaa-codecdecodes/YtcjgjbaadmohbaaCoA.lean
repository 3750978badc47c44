/- Walks of the small functions of codec. -/
import Derived.Test.YtcjgjbaadmohbaaMo
import Derived.Test.YtcjgjbaadmohbaaProg
namespace Go.Proofs.Ytcjgjbaadmohbaa
open Go.RowKit
set_option linter.unusedVariables false
set_option linter.unusedSimpArgs false
set_option maxRecDepth 100000
theorem CoA_is1_3 : Is1 Try.prog 3 := ⟨⟨_, Try.underlying3, rfl⟩, by kernel_rfl⟩
theorem CoA_fld_23_0 : FieldAt Try.prog 23 0 0 := ⟨_, _, Try.underlying23, rfl, rfl, by kernel_rfl⟩
theorem CoA_fld_23_1 : FieldAt Try.prog 23 1 1 := ⟨_, _, Try.underlying23, rfl, rfl, by kernel_rfl⟩
theorem CoA_fld_23_2 : FieldAt Try.prog 23 2 2 := ⟨_, _, Try.underlying23, rfl, rfl, by kernel_rfl⟩
theorem CoA_isS_23 : IsS Try.prog 23 3 := ⟨⟨_, Try.underlying23⟩, by kernel_rfl⟩
/-- Is it a transcoder? -/
def checkS (c e m : Int) : Int := if 1 ≤ c ∧ c ≤ 3 ∧ 0 ≤ e ∧ e ≤ 5 ∧ 0 ≤ m ∧ m ≤ 2 then 0 else 1
def refS (c e m : Int) (n : Nat) : Int := if checkS c e m = 0 then (if 65536 < n then 4 else 0) else 1
def hasS (c r : Int) : Bool := c != 2 || decide (r ≤ 255)
def subS (c : Int) : Int := if c = 2 then 63 else 65533
def endL (r : Int) : Bool := decide (r = 10 ∨ r = 13 ∨ r = 133 ∨ r = 8232)
def lineEndS (e : Int) : ByteArray := if e = 2 then ⟨#[13]⟩ else if e = 3 then ⟨#[13, 10]⟩ else if e = 4 then ⟨#[194, 133]⟩ else if e = 5 then ⟨#[226, 128, 168]⟩ else ⟨#[10]⟩
theorem check_any {w : World} {c k m : Int} : Calls Try.prog 10 #[.agg #[.int .i64 c, .int .i64 k, .int .i64 m]] w fun e w' => e = .returned (.int .i64 (checkS c k m)) ∧ Below w.heap.size w w' := by
 have hM : Mg w w ([]) := Mg.start w
 refine walk_of (l := [(0, .agg #[.int .i64 c, .int .i64 k, .int .i64 m])]) Try.func10 rfl Try.ntmps10 rfl rfl ?_
 intro Q hret hnorm hP a hA
 refine wp_seq_k (fun K1 hK1 => ?_)
 refine wp_region_lit ?_
 refine s_new (vs := [.int .i64 c, .int .i64 k, .int .i64 m]) (t := 23) hA hM rfl rfl rfl (fun g => .pointer (some ⟨g, 0, none⟩)) (does_box rfl rfl) (by decide) ?_
 intro g2 w3 hM a hA
 refine seq_do hA rfl rfl rfl (does_assign rfl) ?_
 intro a hA
 refine seq_end ?_
 refine hK1 _ _ ?_
 refine wp_seq_k (fun K4 hK4 => ?_)
 refine wp_block ?_
 refine wp_seq_k (fun K5 hK5 => ?_)
 refine wp_region_lit ?_
 refine seq_do (v := .pointer (some ⟨g2, 0, none⟩)) hA rfl rfl rfl (does_field CoA_fld_23_0 rfl rfl) ?_
 intro a hA
 refine seq_do hA rfl rfl rfl (m_load1 hM CoA_is1_3 rfl 0 rfl rfl) ?_
 intro a hA
 rcases Bool.eq_false_or_eq_true (decide (c < 1)) with hb6 | hb6
 · have hb6' := of_decide_eq_true hb6
   refine seq_do (v := .bool true) hA rfl rfl rfl (does_bin rfl rfl (fun w => (bin_lss w).trans (by rw [hb6]))) ?_
   intro a hA
   refine seq_do hA rfl rfl rfl (does_move rfl) ?_
   intro a hA
   refine seq_skip hA rfl rfl rfl ?_
   intro a hA
   refine seq_skip hA rfl rfl rfl ?_
   intro a hA
   refine seq_skip hA rfl rfl rfl ?_
   intro a hA
   refine seq_do (v := .bool true) hA rfl rfl rfl (does_pick rfl rfl rfl rfl) ?_
   intro a hA
   refine seq_do hA rfl rfl rfl (does_assign rfl) ?_
   intro a hA
   refine seq_end ?_
   refine hK5 _ _ ?_
   refine wp_cond_true (hA.ev rfl) ?_
   refine wp_seq_k (fun K7 hK7 => ?_)
   refine wp_region_lit ?_
   refine seq_do hA rfl rfl rfl (does_assign rfl) ?_
   intro a hA
   refine seq_end ?_
   refine hK7 _ _ ?_
   refine wp_ret ?_
   refine hret _ _ ?_
   refine ends (v := .int .i64 1) hA rfl (.cons (res_tmp rfl) .nil) rfl ?_
   exact ⟨by rw [show checkS c k m = 1 from by unfold checkS; rw [if_neg (by omega)]], hM.bel⟩
 · have hb6' := of_decide_eq_false hb6
   refine seq_do (v := .bool false) hA rfl rfl rfl (does_bin rfl rfl (fun w => (bin_lss w).trans (by rw [hb6]))) ?_
   intro a hA
   refine seq_do hA rfl rfl rfl (does_move rfl) ?_
   intro a hA
   refine seq_do (v := .pointer (some ⟨g2, 0, none⟩)) hA rfl rfl rfl (does_field CoA_fld_23_0 rfl rfl) ?_
   intro a hA
   refine seq_do hA rfl rfl rfl (m_load1 hM CoA_is1_3 rfl 0 rfl rfl) ?_
   intro a hA
   rcases Bool.eq_false_or_eq_true (decide (3 < c)) with hb8 | hb8
   · have hb8' := of_decide_eq_true hb8
     refine seq_do (v := .bool true) hA rfl rfl rfl (does_bin rfl rfl (fun w => (bin_gtr w).trans (by rw [hb8]))) ?_
     intro a hA
     refine seq_do (v := .bool true) hA rfl rfl rfl (does_pick rfl rfl rfl rfl) ?_
     intro a hA
     refine seq_do hA rfl rfl rfl (does_assign rfl) ?_
     intro a hA
     refine seq_end ?_
     refine hK5 _ _ ?_
     refine wp_cond_true (hA.ev rfl) ?_
     refine wp_seq_k (fun K9 hK9 => ?_)
     refine wp_region_lit ?_
     refine seq_do hA rfl rfl rfl (does_assign rfl) ?_
     intro a hA
     refine seq_end ?_
     refine hK9 _ _ ?_
     refine wp_ret ?_
     refine hret _ _ ?_
     refine ends (v := .int .i64 1) hA rfl (.cons (res_tmp rfl) .nil) rfl ?_
     exact ⟨by rw [show checkS c k m = 1 from by unfold checkS; rw [if_neg (by omega)]], hM.bel⟩
   · have hb8' := of_decide_eq_false hb8
     refine seq_do (v := .bool false) hA rfl rfl rfl (does_bin rfl rfl (fun w => (bin_gtr w).trans (by rw [hb8]))) ?_
     intro a hA
     refine seq_do (v := .bool false) hA rfl rfl rfl (does_pick rfl rfl rfl rfl) ?_
     intro a hA
     refine seq_do hA rfl rfl rfl (does_assign rfl) ?_
     intro a hA
     refine seq_end ?_
     refine hK5 _ _ ?_
     refine wp_cond_false (hA.ev rfl) ?_
     refine wp_seq_k (fun K10 hK10 => ?_)
     refine wp_region_lit ?_
     refine seq_do (v := .pointer (some ⟨g2, 1, none⟩)) hA rfl rfl rfl (does_field CoA_fld_23_1 rfl rfl) ?_
     intro a hA
     refine seq_do hA rfl rfl rfl (m_load1 hM CoA_is1_3 rfl 0 rfl rfl) ?_
     intro a hA
     rcases Bool.eq_false_or_eq_true (decide (k < 0)) with hb11 | hb11
     · have hb11' := of_decide_eq_true hb11
       refine seq_do (v := .bool true) hA rfl rfl rfl (does_bin rfl rfl (fun w => (bin_lss w).trans (by rw [hb11]))) ?_
       intro a hA
       refine seq_do hA rfl rfl rfl (does_move rfl) ?_
       intro a hA
       refine seq_skip hA rfl rfl rfl ?_
       intro a hA
       refine seq_skip hA rfl rfl rfl ?_
       intro a hA
       refine seq_skip hA rfl rfl rfl ?_
       intro a hA
       refine seq_do (v := .bool true) hA rfl rfl rfl (does_pick rfl rfl rfl rfl) ?_
       intro a hA
       refine seq_do hA rfl rfl rfl (does_assign rfl) ?_
       intro a hA
       refine seq_end ?_
       refine hK10 _ _ ?_
       refine wp_cond_true (hA.ev rfl) ?_
       refine wp_seq_k (fun K12 hK12 => ?_)
       refine wp_region_lit ?_
       refine seq_do hA rfl rfl rfl (does_assign rfl) ?_
       intro a hA
       refine seq_end ?_
       refine hK12 _ _ ?_
       refine wp_ret ?_
       refine hret _ _ ?_
       refine ends (v := .int .i64 1) hA rfl (.cons (res_tmp rfl) .nil) rfl ?_
       exact ⟨by rw [show checkS c k m = 1 from by unfold checkS; rw [if_neg (by omega)]], hM.bel⟩
     · have hb11' := of_decide_eq_false hb11
       refine seq_do (v := .bool false) hA rfl rfl rfl (does_bin rfl rfl (fun w => (bin_lss w).trans (by rw [hb11]))) ?_
       intro a hA
       refine seq_do hA rfl rfl rfl (does_move rfl) ?_
       intro a hA
       refine seq_do (v := .pointer (some ⟨g2, 1, none⟩)) hA rfl rfl rfl (does_field CoA_fld_23_1 rfl rfl) ?_
       intro a hA
       refine seq_do hA rfl rfl rfl (m_load1 hM CoA_is1_3 rfl 0 rfl rfl) ?_
       intro a hA
       rcases Bool.eq_false_or_eq_true (decide (5 < k)) with hb13 | hb13
       · have hb13' := of_decide_eq_true hb13
         refine seq_do (v := .bool true) hA rfl rfl rfl (does_bin rfl rfl (fun w => (bin_gtr w).trans (by rw [hb13]))) ?_
         intro a hA
         refine seq_do (v := .bool true) hA rfl rfl rfl (does_pick rfl rfl rfl rfl) ?_
         intro a hA
         refine seq_do hA rfl rfl rfl (does_assign rfl) ?_
         intro a hA
         refine seq_end ?_
         refine hK10 _ _ ?_
         refine wp_cond_true (hA.ev rfl) ?_
         refine wp_seq_k (fun K14 hK14 => ?_)
         refine wp_region_lit ?_
         refine seq_do hA rfl rfl rfl (does_assign rfl) ?_
         intro a hA
         refine seq_end ?_
         refine hK14 _ _ ?_
         refine wp_ret ?_
         refine hret _ _ ?_
         refine ends (v := .int .i64 1) hA rfl (.cons (res_tmp rfl) .nil) rfl ?_
         exact ⟨by rw [show checkS c k m = 1 from by unfold checkS; rw [if_neg (by omega)]], hM.bel⟩
       · have hb13' := of_decide_eq_false hb13
         refine seq_do (v := .bool false) hA rfl rfl rfl (does_bin rfl rfl (fun w => (bin_gtr w).trans (by rw [hb13]))) ?_
         intro a hA
         refine seq_do (v := .bool false) hA rfl rfl rfl (does_pick rfl rfl rfl rfl) ?_
         intro a hA
         refine seq_do hA rfl rfl rfl (does_assign rfl) ?_
         intro a hA
         refine seq_end ?_
         refine hK10 _ _ ?_
         refine wp_cond_false (hA.ev rfl) ?_
         refine wp_seq_k (fun K15 hK15 => ?_)
         refine wp_region_lit ?_
         refine seq_do (v := .pointer (some ⟨g2, 2, none⟩)) hA rfl rfl rfl (does_field CoA_fld_23_2 rfl rfl) ?_
         intro a hA
         refine seq_do hA rfl rfl rfl (m_load1 hM CoA_is1_3 rfl 0 rfl rfl) ?_
         intro a hA
         rcases Bool.eq_false_or_eq_true (decide (m < 0)) with hb16 | hb16
         · have hb16' := of_decide_eq_true hb16
           refine seq_do (v := .bool true) hA rfl rfl rfl (does_bin rfl rfl (fun w => (bin_lss w).trans (by rw [hb16]))) ?_
           intro a hA
           refine seq_do hA rfl rfl rfl (does_move rfl) ?_
           intro a hA
           refine seq_skip hA rfl rfl rfl ?_
           intro a hA
           refine seq_skip hA rfl rfl rfl ?_
           intro a hA
           refine seq_skip hA rfl rfl rfl ?_
           intro a hA
           refine seq_do (v := .bool true) hA rfl rfl rfl (does_pick rfl rfl rfl rfl) ?_
           intro a hA
           refine seq_do hA rfl rfl rfl (does_assign rfl) ?_
           intro a hA
           refine seq_end ?_
           refine hK15 _ _ ?_
           refine wp_cond_true (hA.ev rfl) ?_
           refine wp_seq_k (fun K17 hK17 => ?_)
           refine wp_region_lit ?_
           refine seq_do hA rfl rfl rfl (does_assign rfl) ?_
           intro a hA
           refine seq_end ?_
           refine hK17 _ _ ?_
           refine wp_ret ?_
           refine hret _ _ ?_
           refine ends (v := .int .i64 1) hA rfl (.cons (res_tmp rfl) .nil) rfl ?_
           exact ⟨by rw [show checkS c k m = 1 from by unfold checkS; rw [if_neg (by omega)]], hM.bel⟩
         · have hb16' := of_decide_eq_false hb16
           refine seq_do (v := .bool false) hA rfl rfl rfl (does_bin rfl rfl (fun w => (bin_lss w).trans (by rw [hb16]))) ?_
           intro a hA
           refine seq_do hA rfl rfl rfl (does_move rfl) ?_
           intro a hA
           refine seq_do (v := .pointer (some ⟨g2, 2, none⟩)) hA rfl rfl rfl (does_field CoA_fld_23_2 rfl rfl) ?_
           intro a hA
           refine seq_do hA rfl rfl rfl (m_load1 hM CoA_is1_3 rfl 0 rfl rfl) ?_
           intro a hA
           rcases Bool.eq_false_or_eq_true (decide (2 < m)) with hb18 | hb18
           · have hb18' := of_decide_eq_true hb18
             refine seq_do (v := .bool true) hA rfl rfl rfl (does_bin rfl rfl (fun w => (bin_gtr w).trans (by rw [hb18]))) ?_
             intro a hA
             refine seq_do (v := .bool true) hA rfl rfl rfl (does_pick rfl rfl rfl rfl) ?_
             intro a hA
             refine seq_do hA rfl rfl rfl (does_assign rfl) ?_
             intro a hA
             refine seq_end ?_
             refine hK15 _ _ ?_
             refine wp_cond_true (hA.ev rfl) ?_
             refine wp_seq_k (fun K19 hK19 => ?_)
             refine wp_region_lit ?_
             refine seq_do hA rfl rfl rfl (does_assign rfl) ?_
             intro a hA
             refine seq_end ?_
             refine hK19 _ _ ?_
             refine wp_ret ?_
             refine hret _ _ ?_
             refine ends (v := .int .i64 1) hA rfl (.cons (res_tmp rfl) .nil) rfl ?_
             exact ⟨by rw [show checkS c k m = 1 from by unfold checkS; rw [if_neg (by omega)]], hM.bel⟩
           · have hb18' := of_decide_eq_false hb18
             refine seq_do (v := .bool false) hA rfl rfl rfl (does_bin rfl rfl (fun w => (bin_gtr w).trans (by rw [hb18]))) ?_
             intro a hA
             refine seq_do (v := .bool false) hA rfl rfl rfl (does_pick rfl rfl rfl rfl) ?_
             intro a hA
             refine seq_do hA rfl rfl rfl (does_assign rfl) ?_
             intro a hA
             refine seq_end ?_
             refine hK15 _ _ ?_
             refine wp_cond_false (hA.ev rfl) ?_
             refine wp_skip ?_
             refine hK4 _ _ ?_
             refine wp_seq_k (fun K20 hK20 => ?_)
             refine wp_region_lit ?_
             refine seq_do hA rfl rfl rfl (does_assign rfl) ?_
             intro a hA
             refine seq_end ?_
             refine hK20 _ _ ?_
             refine wp_ret ?_
             refine hret _ _ ?_
             refine ends (v := .int .i64 0) hA rfl (.cons (res_tmp rfl) .nil) rfl ?_
             exact ⟨by rw [show checkS c k m = 0 from by unfold checkS; rw [if_pos (by omega)]], hM.bel⟩
theorem refusal_any {w : World} {c k m : Int} {n : Nat} : Calls Try.prog 32 #[.agg #[.int .i64 c, .int .i64 k, .int .i64 m], .int .i64 ((n : Nat) : Int)] w fun e w' => e = .returned (.int .i64 (refS c k m n)) ∧ Below w.heap.size w w' := by
 have hM : Mg w w ([]) := Mg.start w
 refine walk_of (l := [(0, .agg #[.int .i64 c, .int .i64 k, .int .i64 m]), (1, .int .i64 (((n : Nat) : Int)))]) Try.func32 rfl Try.ntmps32 rfl rfl ?_
 intro Q hret hnorm hP a hA
 refine wp_seq_k (fun K1 hK1 => ?_)
 refine wp_region_lit ?_
 refine s_new (vs := [.int .i64 c, .int .i64 k, .int .i64 m]) (t := 23) hA hM rfl rfl rfl (fun g => .pointer (some ⟨g, 0, none⟩)) (does_box rfl rfl) (by decide) ?_
 intro g2 w3 hM a hA
 refine seq_do hA rfl rfl rfl (does_assign rfl) ?_
 intro a hA
 refine seq_end ?_
 refine hK1 _ _ ?_
 refine wp_seq_k (fun K4 hK4 => ?_)
 refine wp_seq_k (fun K5 hK5 => ?_)
 refine wp_region_lit ?_
 refine seq_do hA rfl rfl rfl (m_loadS hM CoA_isS_23 rfl 0 rfl (cs := [.int .i64 c, .int .i64 k, .int .i64 m]) rfl rfl) ?_
 intro a hA
 refine seq_call hA rfl rfl rfl (enters_func rfl rfl (fun w => by kernel_rfl)) (check_any) ?_
 rintro _ w7 ⟨rfl, hb6⟩
 replace hM := hM.call hb6
 refine ⟨_, rfl, ?_⟩
 intro a hA
 refine seq_do hA rfl rfl rfl (does_assign rfl) ?_
 intro a hA
 refine seq_end ?_
 refine hK5 _ _ ?_
 refine wp_seq_k (fun K8 hK8 => ?_)
 refine wp_region_lit ?_
 refine seq_do hA rfl rfl rfl (does_move rfl) ?_
 intro a hA
 rcases Bool.eq_false_or_eq_true ((checkS c k m != 0)) with hb9 | hb9
 · have hb9' := bne_iff_ne.1 hb9
   refine seq_do (v := .bool true) hA rfl rfl rfl (does_bin rfl rfl (fun w => (bin_neq w).trans (by rw [hb9]))) ?_
   intro a hA
   refine seq_end ?_
   refine hK8 _ _ ?_
   refine wp_cond_true (hA.ev rfl) ?_
   refine wp_seq_k (fun K10 hK10 => ?_)
   refine wp_region_lit ?_
   refine seq_do hA rfl rfl rfl (does_move rfl) ?_
   intro a hA
   refine seq_do hA rfl rfl rfl (does_assign rfl) ?_
   intro a hA
   refine seq_end ?_
   refine hK10 _ _ ?_
   refine wp_ret ?_
   refine hret _ _ ?_
   refine ends (v := .int .i64 (checkS c k m)) hA rfl (.cons (res_tmp rfl) .nil) rfl ?_
   have h7 : checkS c k m = 0 ∨ checkS c k m = 1 := by unfold checkS; split <;> simp
   exact ⟨by rw [show refS c k m n = checkS c k m from by unfold refS; first | (rw [if_neg (by omega)]; omega) | (rw [if_pos (by omega)]; first | rw [if_pos (by omega)] | rw [if_neg (by omega)])], hM.bel⟩
 · have hb9' := bne_eq_false_iff_eq.1 hb9
   refine seq_do (v := .bool false) hA rfl rfl rfl (does_bin rfl rfl (fun w => (bin_neq w).trans (by rw [hb9]))) ?_
   intro a hA
   refine seq_end ?_
   refine hK8 _ _ ?_
   refine wp_cond_false (hA.ev rfl) ?_
   refine wp_skip ?_
   refine hK4 _ _ ?_
   refine wp_seq_k (fun K11 hK11 => ?_)
   refine wp_seq_k (fun K12 hK12 => ?_)
   refine wp_region_lit ?_
   refine seq_do hA rfl rfl rfl (does_move rfl) ?_
   intro a hA
   rcases Bool.eq_false_or_eq_true (decide (65536 < ((n : Nat) : Int))) with hb13 | hb13
   · have hb13' := of_decide_eq_true hb13
     refine seq_do (v := .bool true) hA rfl rfl rfl (does_bin rfl rfl (fun w => (bin_gtr w).trans (by rw [hb13]))) ?_
     intro a hA
     refine seq_end ?_
     refine hK12 _ _ ?_
     refine wp_cond_true (hA.ev rfl) ?_
     refine wp_seq_k (fun K14 hK14 => ?_)
     refine wp_region_lit ?_
     refine seq_do hA rfl rfl rfl (does_assign rfl) ?_
     intro a hA
     refine seq_end ?_
     refine hK14 _ _ ?_
     refine wp_ret ?_
     refine hret _ _ ?_
     refine ends (v := .int .i64 4) hA rfl (.cons (res_tmp rfl) .nil) rfl ?_
     have h7 : checkS c k m = 0 ∨ checkS c k m = 1 := by unfold checkS; split <;> simp
     exact ⟨by rw [show refS c k m n = 4 from by unfold refS; first | (rw [if_neg (by omega)]; omega) | (rw [if_pos (by omega)]; first | rw [if_pos (by omega)] | rw [if_neg (by omega)])], hM.bel⟩
   · have hb13' := of_decide_eq_false hb13
     refine seq_do (v := .bool false) hA rfl rfl rfl (does_bin rfl rfl (fun w => (bin_gtr w).trans (by rw [hb13]))) ?_
     intro a hA
     refine seq_end ?_
     refine hK12 _ _ ?_
     refine wp_cond_false (hA.ev rfl) ?_
     refine wp_skip ?_
     refine hK11 _ _ ?_
     refine wp_seq_k (fun K15 hK15 => ?_)
     refine wp_region_lit ?_
     refine seq_do hA rfl rfl rfl (does_assign rfl) ?_
     intro a hA
     refine seq_end ?_
     refine hK15 _ _ ?_
     refine wp_ret ?_
     refine hret _ _ ?_
     refine ends (v := .int .i64 0) hA rfl (.cons (res_tmp rfl) .nil) rfl ?_
     have h7 : checkS c k m = 0 ∨ checkS c k m = 1 := by unfold checkS; split <;> simp
     exact ⟨by rw [show refS c k m n = 0 from by unfold refS; first | (rw [if_neg (by omega)]; omega) | (rw [if_pos (by omega)]; first | rw [if_pos (by omega)] | rw [if_neg (by omega)])], hM.bel⟩
theorem has_any {w : World} {c r : Int} : Calls Try.prog 46 #[.int .i64 c, .int .i32 r] w fun e w' => e = .returned (.bool (hasS c r)) ∧ Below w.heap.size w w' := by
 have hM : Mg w w ([]) := Mg.start w
 refine walk_of (l := [(0, .int .i64 c), (1, .int .i32 r)]) Try.func46 rfl Try.ntmps46 rfl rfl ?_
 intro Q hret hnorm hP a hA
 refine wp_seq_k (fun K1 hK1 => ?_)
 refine wp_region_lit ?_
 refine seq_do hA rfl rfl rfl (does_assign rfl) ?_
 intro a hA
 refine seq_end ?_
 refine hK1 _ _ ?_
 refine wp_seq_k (fun K2 hK2 => ?_)
 refine wp_region_lit ?_
 refine seq_do hA rfl rfl rfl (does_move rfl) ?_
 intro a hA
 rcases Bool.eq_false_or_eq_true ((c != 2)) with hb3 | hb3
 · have hb3' := bne_iff_ne.1 hb3
   refine seq_do (v := .bool true) hA rfl rfl rfl (does_bin rfl rfl (fun w => (bin_neq w).trans (by rw [hb3]))) ?_
   intro a hA
   refine seq_do hA rfl rfl rfl (does_move rfl) ?_
   intro a hA
   refine seq_skip hA rfl rfl rfl ?_
   intro a hA
   refine seq_skip hA rfl rfl rfl ?_
   intro a hA
   refine seq_do (v := .bool true) hA rfl rfl rfl (does_pick rfl rfl rfl rfl) ?_
   intro a hA
   refine seq_do hA rfl rfl rfl (does_assign rfl) ?_
   intro a hA
   refine seq_end ?_
   refine hK2 _ _ ?_
   refine wp_ret ?_
   refine hret _ _ ?_
   refine ends (v := .bool true) hA rfl (.cons (res_tmp rfl) .nil) rfl ?_
   exact ⟨by rw [show hasS c r = true from by unfold hasS; simp; omega], hM.bel⟩
 · have hb3' := bne_eq_false_iff_eq.1 hb3
   refine seq_do (v := .bool false) hA rfl rfl rfl (does_bin rfl rfl (fun w => (bin_neq w).trans (by rw [hb3]))) ?_
   intro a hA
   refine seq_do hA rfl rfl rfl (does_move rfl) ?_
   intro a hA
   refine seq_do hA rfl rfl rfl (does_move rfl) ?_
   intro a hA
   rcases Bool.eq_false_or_eq_true (decide (r ≤ 255)) with hb4 | hb4
   · have hb4' := of_decide_eq_true hb4
     refine seq_do (v := .bool true) hA rfl rfl rfl (does_bin rfl rfl (fun w => (bin_leq w).trans (by rw [hb4]))) ?_
     intro a hA
     refine seq_do (v := .bool true) hA rfl rfl rfl (does_pick rfl rfl rfl rfl) ?_
     intro a hA
     refine seq_do hA rfl rfl rfl (does_assign rfl) ?_
     intro a hA
     refine seq_end ?_
     refine hK2 _ _ ?_
     refine wp_ret ?_
     refine hret _ _ ?_
     refine ends (v := .bool true) hA rfl (.cons (res_tmp rfl) .nil) rfl ?_
     exact ⟨by rw [show hasS c r = true from by unfold hasS; simp; omega], hM.bel⟩
   · have hb4' := of_decide_eq_false hb4
     refine seq_do (v := .bool false) hA rfl rfl rfl (does_bin rfl rfl (fun w => (bin_leq w).trans (by rw [hb4]))) ?_
     intro a hA
     refine seq_do (v := .bool false) hA rfl rfl rfl (does_pick rfl rfl rfl rfl) ?_
     intro a hA
     refine seq_do hA rfl rfl rfl (does_assign rfl) ?_
     intro a hA
     refine seq_end ?_
     refine hK2 _ _ ?_
     refine wp_ret ?_
     refine hret _ _ ?_
     refine ends (v := .bool false) hA rfl (.cons (res_tmp rfl) .nil) rfl ?_
     exact ⟨by rw [show hasS c r = false from by unfold hasS; simp; omega], hM.bel⟩
theorem substitute_any {w : World} {c : Int} : Calls Try.prog 48 #[.int .i64 c] w fun e w' => e = .returned (.int .i32 (subS c)) ∧ Below w.heap.size w w' := by
 have hM : Mg w w ([]) := Mg.start w
 refine walk_of (l := [(0, .int .i64 c)]) Try.func48 rfl Try.ntmps48 rfl rfl ?_
 intro Q hret hnorm hP a hA
 refine wp_seq_k (fun K1 hK1 => ?_)
 refine wp_region_lit ?_
 refine seq_do hA rfl rfl rfl (does_assign rfl) ?_
 intro a hA
 refine seq_end ?_
 refine hK1 _ _ ?_
 refine wp_seq_k (fun K2 hK2 => ?_)
 refine wp_seq_k (fun K3 hK3 => ?_)
 refine wp_region_lit ?_
 refine seq_do hA rfl rfl rfl (does_move rfl) ?_
 intro a hA
 rcases Bool.eq_false_or_eq_true ((c == 2)) with hb4 | hb4
 · have hb4' := eq_of_beq hb4
   refine seq_do (v := .bool true) hA rfl rfl rfl (does_bin rfl rfl (fun w => (bin_eql w).trans (by rw [hb4]))) ?_
   intro a hA
   refine seq_end ?_
   refine hK3 _ _ ?_
   refine wp_cond_true (hA.ev rfl) ?_
   refine wp_seq_k (fun K5 hK5 => ?_)
   refine wp_region_lit ?_
   refine seq_do hA rfl rfl rfl (does_assign rfl) ?_
   intro a hA
   refine seq_end ?_
   refine hK5 _ _ ?_
   refine wp_ret ?_
   refine hret _ _ ?_
   refine ends (v := .int .i32 63) hA rfl (.cons (res_tmp rfl) .nil) rfl ?_
   exact ⟨by rw [show subS c = 63 from by unfold subS; rw [if_pos (by omega)]], hM.bel⟩
 · have hb4' := ne_of_beq_false hb4
   refine seq_do (v := .bool false) hA rfl rfl rfl (does_bin rfl rfl (fun w => (bin_eql w).trans (by rw [hb4]))) ?_
   intro a hA
   refine seq_end ?_
   refine hK3 _ _ ?_
   refine wp_cond_false (hA.ev rfl) ?_
   refine wp_skip ?_
   refine hK2 _ _ ?_
   refine wp_seq_k (fun K6 hK6 => ?_)
   refine wp_region_lit ?_
   refine seq_do hA rfl rfl rfl (does_assign rfl) ?_
   intro a hA
   refine seq_end ?_
   refine hK6 _ _ ?_
   refine wp_ret ?_
   refine hret _ _ ?_
   refine ends (v := .int .i32 65533) hA rfl (.cons (res_tmp rfl) .nil) rfl ?_
   exact ⟨by rw [show subS c = 65533 from by unfold subS; rw [if_neg (by omega)]], hM.bel⟩
theorem endsLine_any {w : World} {r : Int} : Calls Try.prog 70 #[.int .i32 r] w fun e w' => e = .returned (.bool (endL r)) ∧ Below w.heap.size w w' := by
 have hM : Mg w w ([]) := Mg.start w
 refine walk_of (l := [(0, .int .i32 r)]) Try.func70 rfl Try.ntmps70 rfl rfl ?_
 intro Q hret hnorm hP a hA
 refine wp_seq_k (fun K1 hK1 => ?_)
 refine wp_region_lit ?_
 refine seq_do hA rfl rfl rfl (does_assign rfl) ?_
 intro a hA
 refine seq_end ?_
 refine hK1 _ _ ?_
 refine wp_seq_k (fun K2 hK2 => ?_)
 refine wp_seq_k (fun K3 hK3 => ?_)
 refine wp_region_lit ?_
 refine seq_do hA rfl rfl rfl (does_move rfl) ?_
 intro a hA
 refine seq_end ?_
 refine hK3 _ _ ?_
 refine wp_block ?_
 refine wp_seq_k (fun K4 hK4 => ?_)
 refine wp_seq_k (fun K5 hK5 => ?_)
 refine wp_region_lit ?_
 rcases Bool.eq_false_or_eq_true ((r == 10)) with hb6 | hb6
 · have hb6' := eq_of_beq hb6
   refine seq_do (v := .bool true) hA rfl rfl rfl (does_bin rfl rfl (fun w => (bin_eql w).trans (by rw [hb6]))) ?_
   intro a hA
   refine seq_do hA rfl rfl rfl (does_assign rfl) ?_
   intro a hA
   refine seq_end ?_
   refine hK5 _ _ ?_
   refine wp_cond_true (hA.ev rfl) ?_
   refine wp_skip ?_
   refine hK4 _ _ ?_
   refine wp_cond_true (hA.ev rfl) ?_
   refine wp_seq_k (fun K7 hK7 => ?_)
   refine wp_region_lit ?_
   refine seq_do hA rfl rfl rfl (does_assign rfl) ?_
   intro a hA
   refine seq_end ?_
   refine hK7 _ _ ?_
   refine wp_ret ?_
   refine hret _ _ ?_
   refine ends (v := .bool true) hA rfl (.cons (res_tmp rfl) .nil) rfl ?_
   exact ⟨by rw [show endL r = true from by unfold endL; apply decide_eq_true; omega], hM.bel⟩
 · have hb6' := ne_of_beq_false hb6
   refine seq_do (v := .bool false) hA rfl rfl rfl (does_bin rfl rfl (fun w => (bin_eql w).trans (by rw [hb6]))) ?_
   intro a hA
   refine seq_do hA rfl rfl rfl (does_assign rfl) ?_
   intro a hA
   refine seq_end ?_
   refine hK5 _ _ ?_
   refine wp_cond_false (hA.ev rfl) ?_
   refine wp_seq_k (fun K8 hK8 => ?_)
   refine wp_region_lit ?_
   rcases Bool.eq_false_or_eq_true ((r == 13)) with hb9 | hb9
   · have hb9' := eq_of_beq hb9
     refine seq_do (v := .bool true) hA rfl rfl rfl (does_bin rfl rfl (fun w => (bin_eql w).trans (by rw [hb9]))) ?_
     intro a hA
     refine seq_do hA rfl rfl rfl (does_assign rfl) ?_
     intro a hA
     refine seq_end ?_
     refine hK8 _ _ ?_
     refine wp_cond_true (hA.ev rfl) ?_
     refine wp_skip ?_
     refine hK4 _ _ ?_
     refine wp_cond_true (hA.ev rfl) ?_
     refine wp_seq_k (fun K10 hK10 => ?_)
     refine wp_region_lit ?_
     refine seq_do hA rfl rfl rfl (does_assign rfl) ?_
     intro a hA
     refine seq_end ?_
     refine hK10 _ _ ?_
     refine wp_ret ?_
     refine hret _ _ ?_
     refine ends (v := .bool true) hA rfl (.cons (res_tmp rfl) .nil) rfl ?_
     exact ⟨by rw [show endL r = true from by unfold endL; apply decide_eq_true; omega], hM.bel⟩
   · have hb9' := ne_of_beq_false hb9
     refine seq_do (v := .bool false) hA rfl rfl rfl (does_bin rfl rfl (fun w => (bin_eql w).trans (by rw [hb9]))) ?_
     intro a hA
     refine seq_do hA rfl rfl rfl (does_assign rfl) ?_
     intro a hA
     refine seq_end ?_
     refine hK8 _ _ ?_
     refine wp_cond_false (hA.ev rfl) ?_
     refine wp_seq_k (fun K11 hK11 => ?_)
     refine wp_region_lit ?_
     rcases Bool.eq_false_or_eq_true ((r == 133)) with hb12 | hb12
     · have hb12' := eq_of_beq hb12
       refine seq_do (v := .bool true) hA rfl rfl rfl (does_bin rfl rfl (fun w => (bin_eql w).trans (by rw [hb12]))) ?_
       intro a hA
       refine seq_do hA rfl rfl rfl (does_assign rfl) ?_
       intro a hA
       refine seq_end ?_
       refine hK11 _ _ ?_
       refine wp_cond_true (hA.ev rfl) ?_
       refine wp_skip ?_
       refine hK4 _ _ ?_
       refine wp_cond_true (hA.ev rfl) ?_
       refine wp_seq_k (fun K13 hK13 => ?_)
       refine wp_region_lit ?_
       refine seq_do hA rfl rfl rfl (does_assign rfl) ?_
       intro a hA
       refine seq_end ?_
       refine hK13 _ _ ?_
       refine wp_ret ?_
       refine hret _ _ ?_
       refine ends (v := .bool true) hA rfl (.cons (res_tmp rfl) .nil) rfl ?_
       exact ⟨by rw [show endL r = true from by unfold endL; apply decide_eq_true; omega], hM.bel⟩
     · have hb12' := ne_of_beq_false hb12
       refine seq_do (v := .bool false) hA rfl rfl rfl (does_bin rfl rfl (fun w => (bin_eql w).trans (by rw [hb12]))) ?_
       intro a hA
       refine seq_do hA rfl rfl rfl (does_assign rfl) ?_
       intro a hA
       refine seq_end ?_
       refine hK11 _ _ ?_
       refine wp_cond_false (hA.ev rfl) ?_
       refine wp_region_lit ?_
       rcases Bool.eq_false_or_eq_true ((r == 8232)) with hb14 | hb14
       · have hb14' := eq_of_beq hb14
         refine seq_do (v := .bool true) hA rfl rfl rfl (does_bin rfl rfl (fun w => (bin_eql w).trans (by rw [hb14]))) ?_
         intro a hA
         refine seq_do hA rfl rfl rfl (does_assign rfl) ?_
         intro a hA
         refine seq_end ?_
         refine hK4 _ _ ?_
         refine wp_cond_true (hA.ev rfl) ?_
         refine wp_seq_k (fun K15 hK15 => ?_)
         refine wp_region_lit ?_
         refine seq_do hA rfl rfl rfl (does_assign rfl) ?_
         intro a hA
         refine seq_end ?_
         refine hK15 _ _ ?_
         refine wp_ret ?_
         refine hret _ _ ?_
         refine ends (v := .bool true) hA rfl (.cons (res_tmp rfl) .nil) rfl ?_
         exact ⟨by rw [show endL r = true from by unfold endL; apply decide_eq_true; omega], hM.bel⟩
       · have hb14' := ne_of_beq_false hb14
         refine seq_do (v := .bool false) hA rfl rfl rfl (does_bin rfl rfl (fun w => (bin_eql w).trans (by rw [hb14]))) ?_
         intro a hA
         refine seq_do hA rfl rfl rfl (does_assign rfl) ?_
         intro a hA
         refine seq_end ?_
         refine hK4 _ _ ?_
         refine wp_cond_false (hA.ev rfl) ?_
         refine wp_skip ?_
         refine hK2 _ _ ?_
         refine wp_seq_k (fun K16 hK16 => ?_)
         refine wp_region_lit ?_
         refine seq_do hA rfl rfl rfl (does_assign rfl) ?_
         intro a hA
         refine seq_end ?_
         refine hK16 _ _ ?_
         refine wp_ret ?_
         refine hret _ _ ?_
         refine ends (v := .bool false) hA rfl (.cons (res_tmp rfl) .nil) rfl ?_
         exact ⟨by rw [show endL r = false from by unfold endL; apply decide_eq_false; omega], hM.bel⟩
theorem lineEnd_any {w : World} {k : Int} : Calls Try.prog 44 #[.int .i64 k] w fun e w' => e = .returned (.string (lineEndS k)) ∧ Below w.heap.size w w' := by
 have hM : Mg w w ([]) := Mg.start w
 refine walk_of (l := [(0, .int .i64 k)]) Try.func44 rfl Try.ntmps44 rfl rfl ?_
 intro Q hret hnorm hP a hA
 refine wp_seq_k (fun K1 hK1 => ?_)
 refine wp_region_lit ?_
 refine seq_do hA rfl rfl rfl (does_assign rfl) ?_
 intro a hA
 refine seq_end ?_
 refine hK1 _ _ ?_
 refine wp_seq_k (fun K2 hK2 => ?_)
 refine wp_seq_k (fun K3 hK3 => ?_)
 refine wp_region_lit ?_
 refine seq_do hA rfl rfl rfl (does_move rfl) ?_
 intro a hA
 refine seq_end ?_
 refine hK3 _ _ ?_
 refine wp_block ?_
 refine wp_seq_k (fun K4 hK4 => ?_)
 refine wp_region_lit ?_
 rcases Bool.eq_false_or_eq_true ((k == 2)) with hb5 | hb5
 · have hb5' := eq_of_beq hb5
   refine seq_do (v := .bool true) hA rfl rfl rfl (does_bin rfl rfl (fun w => (bin_eql w).trans (by rw [hb5]))) ?_
   intro a hA
   refine seq_do hA rfl rfl rfl (does_assign rfl) ?_
   intro a hA
   refine seq_end ?_
   refine hK4 _ _ ?_
   refine wp_cond_true (hA.ev rfl) ?_
   refine wp_seq_k (fun K6 hK6 => ?_)
   refine wp_region_lit ?_
   refine seq_do hA rfl rfl rfl (does_assign rfl) ?_
   intro a hA
   refine seq_end ?_
   refine hK6 _ _ ?_
   refine wp_ret ?_
   refine hret _ _ ?_
   refine ends (v := .string (⟨#[13]⟩)) hA rfl (.cons (res_tmp rfl) .nil) rfl ?_
   exact ⟨by unfold lineEndS; repeat (first | rfl | rw [if_pos (by omega)] | rw [if_neg (by omega)]), hM.bel⟩
 · have hb5' := ne_of_beq_false hb5
   refine seq_do (v := .bool false) hA rfl rfl rfl (does_bin rfl rfl (fun w => (bin_eql w).trans (by rw [hb5]))) ?_
   intro a hA
   refine seq_do hA rfl rfl rfl (does_assign rfl) ?_
   intro a hA
   refine seq_end ?_
   refine hK4 _ _ ?_
   refine wp_cond_false (hA.ev rfl) ?_
   refine wp_seq_k (fun K7 hK7 => ?_)
   refine wp_region_lit ?_
   rcases Bool.eq_false_or_eq_true ((k == 3)) with hb8 | hb8
   · have hb8' := eq_of_beq hb8
     refine seq_do (v := .bool true) hA rfl rfl rfl (does_bin rfl rfl (fun w => (bin_eql w).trans (by rw [hb8]))) ?_
     intro a hA
     refine seq_do hA rfl rfl rfl (does_assign rfl) ?_
     intro a hA
     refine seq_end ?_
     refine hK7 _ _ ?_
     refine wp_cond_true (hA.ev rfl) ?_
     refine wp_seq_k (fun K9 hK9 => ?_)
     refine wp_region_lit ?_
     refine seq_do hA rfl rfl rfl (does_assign rfl) ?_
     intro a hA
     refine seq_end ?_
     refine hK9 _ _ ?_
     refine wp_ret ?_
     refine hret _ _ ?_
     refine ends (v := .string (⟨#[13, 10]⟩)) hA rfl (.cons (res_tmp rfl) .nil) rfl ?_
     exact ⟨by unfold lineEndS; repeat (first | rfl | rw [if_pos (by omega)] | rw [if_neg (by omega)]), hM.bel⟩
   · have hb8' := ne_of_beq_false hb8
     refine seq_do (v := .bool false) hA rfl rfl rfl (does_bin rfl rfl (fun w => (bin_eql w).trans (by rw [hb8]))) ?_
     intro a hA
     refine seq_do hA rfl rfl rfl (does_assign rfl) ?_
     intro a hA
     refine seq_end ?_
     refine hK7 _ _ ?_
     refine wp_cond_false (hA.ev rfl) ?_
     refine wp_seq_k (fun K10 hK10 => ?_)
     refine wp_region_lit ?_
     rcases Bool.eq_false_or_eq_true ((k == 4)) with hb11 | hb11
     · have hb11' := eq_of_beq hb11
       refine seq_do (v := .bool true) hA rfl rfl rfl (does_bin rfl rfl (fun w => (bin_eql w).trans (by rw [hb11]))) ?_
       intro a hA
       refine seq_do hA rfl rfl rfl (does_assign rfl) ?_
       intro a hA
       refine seq_end ?_
       refine hK10 _ _ ?_
       refine wp_cond_true (hA.ev rfl) ?_
       refine wp_seq_k (fun K12 hK12 => ?_)
       refine wp_region_lit ?_
       refine seq_do hA rfl rfl rfl (does_assign rfl) ?_
       intro a hA
       refine seq_end ?_
       refine hK12 _ _ ?_
       refine wp_ret ?_
       refine hret _ _ ?_
       refine ends (v := .string (⟨#[194, 133]⟩)) hA rfl (.cons (res_tmp rfl) .nil) rfl ?_
       exact ⟨by unfold lineEndS; repeat (first | rfl | rw [if_pos (by omega)] | rw [if_neg (by omega)]), hM.bel⟩
     · have hb11' := ne_of_beq_false hb11
       refine seq_do (v := .bool false) hA rfl rfl rfl (does_bin rfl rfl (fun w => (bin_eql w).trans (by rw [hb11]))) ?_
       intro a hA
       refine seq_do hA rfl rfl rfl (does_assign rfl) ?_
       intro a hA
       refine seq_end ?_
       refine hK10 _ _ ?_
       refine wp_cond_false (hA.ev rfl) ?_
       refine wp_seq_k (fun K13 hK13 => ?_)
       refine wp_region_lit ?_
       rcases Bool.eq_false_or_eq_true ((k == 5)) with hb14 | hb14
       · have hb14' := eq_of_beq hb14
         refine seq_do (v := .bool true) hA rfl rfl rfl (does_bin rfl rfl (fun w => (bin_eql w).trans (by rw [hb14]))) ?_
         intro a hA
         refine seq_do hA rfl rfl rfl (does_assign rfl) ?_
         intro a hA
         refine seq_end ?_
         refine hK13 _ _ ?_
         refine wp_cond_true (hA.ev rfl) ?_
         refine wp_seq_k (fun K15 hK15 => ?_)
         refine wp_region_lit ?_
         refine seq_do hA rfl rfl rfl (does_assign rfl) ?_
         intro a hA
         refine seq_end ?_
         refine hK15 _ _ ?_
         refine wp_ret ?_
         refine hret _ _ ?_
         refine ends (v := .string (⟨#[226, 128, 168]⟩)) hA rfl (.cons (res_tmp rfl) .nil) rfl ?_
         exact ⟨by unfold lineEndS; repeat (first | rfl | rw [if_pos (by omega)] | rw [if_neg (by omega)]), hM.bel⟩
       · have hb14' := ne_of_beq_false hb14
         refine seq_do (v := .bool false) hA rfl rfl rfl (does_bin rfl rfl (fun w => (bin_eql w).trans (by rw [hb14]))) ?_
         intro a hA
         refine seq_do hA rfl rfl rfl (does_assign rfl) ?_
         intro a hA
         refine seq_end ?_
         refine hK13 _ _ ?_
         refine wp_cond_false (hA.ev rfl) ?_
         refine wp_skip ?_
         refine hK2 _ _ ?_
         refine wp_seq_k (fun K16 hK16 => ?_)
         refine wp_region_lit ?_
         refine seq_do hA rfl rfl rfl (does_assign rfl) ?_
         intro a hA
         refine seq_end ?_
         refine hK16 _ _ ?_
         refine wp_ret ?_
         refine hret _ _ ?_
         refine ends (v := .string (⟨#[10]⟩)) hA rfl (.cons (res_tmp rfl) .nil) rfl ?_
         exact ⟨by unfold lineEndS; repeat (first | rfl | rw [if_pos (by omega)] | rw [if_neg (by omega)]), hM.bel⟩
end Go.Proofs.Ytcjgjbaadmohbaa
