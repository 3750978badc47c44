/- The walk of CodecJoins. -/
import Derived.Test.YtkngmgddjjefnaaCoK
import Derived.Test.YtkngmgddjjefnaaCoM
namespace Go.Proofs.Ytkngmgddjjefnaa
open Go.RowKit
set_option linter.unusedVariables false
set_option linter.unusedSimpArgs false
set_option maxRecDepth 100000
theorem CoL_fld_23_2 : FieldAt Try.prog 23 2 2 := ⟨_, _, Try.underlying23, rfl, rfl, by kernel_rfl⟩
theorem CoL_isS_23 : IsS Try.prog 23 3 := ⟨⟨_, Try.underlying23⟩, by kernel_rfl⟩
theorem joins_any {w : World} {c k m : Int} {s t : ByteArray} : Calls Try.prog 8 #[.agg #[.int .i64 c, .int .i64 k, .int .i64 m], .string s, .string t] w fun e w' => e = .returned (.bool true) ∧ Below w.heap.size w w' := by
 have h1 : (encS c k 0 s).2.2 = 0 → s.size ≤ 65536 := fun h => (encS_zero h).1
 have h2 : (encS c k 0 t).2.2 = 0 → t.size ≤ 65536 := fun h => (encS_zero h).1
 have hM : Mg w w ([]) := Mg.start w
 refine walk_of (l := [(0, .agg #[.int .i64 c, .int .i64 k, .int .i64 m]), (1, .string s), (2, .string t)]) Try.func8 rfl Try.ntmps8 rfl rfl ?_
 intro Q hret hnorm hP a hA
 refine wp_seq_k (fun K1 hK1 => ?_)
 refine wp_region_lit ?_
 refine s_new (vs := [.int .i64 c, .int .i64 k, .int .i64 m]) (t := 23) hA hM rfl rfl rfl (fun g => .pointer (some ⟨g, 0, none⟩)) (does_box rfl rfl) (by decide) ?_
 intro g2 w3 hM a hA
 refine seq_do hA rfl rfl rfl (does_assign rfl) ?_
 intro a hA
 refine seq_end ?_
 refine hK1 _ _ ?_
 refine wp_seq_k (fun K4 hK4 => ?_)
 refine wp_region_lit ?_
 refine seq_do (v := .pointer (some ⟨g2, 2, none⟩)) hA rfl rfl rfl (does_field CoL_fld_23_2 rfl rfl) ?_
 intro a hA
 refine s_store (us := [.int .i64 c, .int .i64 k, .int .i64 0]) (L' := (.obj g2 (.cells #[.int .i64 c, .int .i64 k, .int .i64 0] 23) :: [])) hA hM rfl rfl (m_store rfl rfl rfl (by kernel_rfl) hM 0 rfl rfl rfl) 0 rfl rfl rfl ?_
 intro w5 hM
 refine seq_end ?_
 refine hK4 _ _ ?_
 refine wp_seq_k (fun K6 hK6 => ?_)
 refine wp_region_lit ?_
 refine seq_do hA rfl rfl rfl (m_loadS hM CoL_isS_23 rfl 0 rfl (cs := [.int .i64 c, .int .i64 k, .int .i64 0]) rfl rfl) ?_
 intro a hA
 refine seq_do hA rfl rfl rfl (does_move rfl) ?_
 intro a hA
 refine seq_call hA rfl rfl rfl (enters_func rfl rfl (fun w => by kernel_rfl)) (encode_any (c := c) (k := k) (m := 0) (s := s) rfl) ?_
 rintro _ w12 ⟨v7, rfl, hn8, hM9⟩
 obtain ⟨so10, ca11, rfl⟩ := owns_slice (hM9.has 0 rfl)
 replace hM : Mg w w12 (.row BY 1 (.slice so10 ((encS c k 0 s).1.length) ca11) ((encS c k 0 s).1.length) ((Lib.byteCells (encS c k 0 s).1)) :: .obj g2 (.cells #[.int .i64 c, .int .i64 k, .int .i64 0] 23) :: []) := (hM.both hM9 (noBld_cons (by simp) (noBld_quiet quietL_nil)) (noBld_cons (by simp) (noBld_quiet quietL_nil)))
 refine ⟨_, rfl, ?_⟩
 intro a hA
 refine seq_do hA rfl rfl rfl (does_move rfl) ?_
 intro a hA
 refine seq_do (v := .slice so10 ((encS c k 0 s).1.length) ca11) hA rfl rfl rfl (does_extract (vs := [.slice so10 ((encS c k 0 s).1.length) ca11, .int .i64 ((encS c k 0 s).2.1), .int .i64 ((encS c k 0 s).2.2)]) rfl rfl) ?_
 intro a hA
 refine seq_do (v := .int .i64 ((encS c k 0 s).2.1)) hA rfl rfl rfl (does_extract (vs := [.slice so10 ((encS c k 0 s).1.length) ca11, .int .i64 ((encS c k 0 s).2.1), .int .i64 ((encS c k 0 s).2.2)]) rfl rfl) ?_
 intro a hA
 refine seq_do (v := .int .i64 ((encS c k 0 s).2.2)) hA rfl rfl rfl (does_extract (vs := [.slice so10 ((encS c k 0 s).1.length) ca11, .int .i64 ((encS c k 0 s).2.1), .int .i64 ((encS c k 0 s).2.2)]) rfl rfl) ?_
 intro a hA
 refine seq_do hA rfl rfl rfl (does_assign rfl) ?_
 intro a hA
 refine seq_do hA rfl rfl rfl (does_assign rfl) ?_
 intro a hA
 refine seq_do hA rfl rfl rfl (does_assign rfl) ?_
 intro a hA
 refine seq_end ?_
 refine hK6 _ _ ?_
 refine wp_seq_k (fun K13 hK13 => ?_)
 refine wp_region_lit ?_
 refine seq_do hA rfl rfl rfl (m_loadS hM CoL_isS_23 rfl 1 rfl (cs := [.int .i64 c, .int .i64 k, .int .i64 0]) rfl rfl) ?_
 intro a hA
 refine seq_do hA rfl rfl rfl (does_move rfl) ?_
 intro a hA
 refine seq_call hA rfl rfl rfl (enters_func rfl rfl (fun w => by kernel_rfl)) (encode_any (c := c) (k := k) (m := 0) (s := t) rfl) ?_
 rintro _ w19 ⟨v14, rfl, hn15, hM16⟩
 obtain ⟨so17, ca18, rfl⟩ := owns_slice (hM16.has 0 rfl)
 replace hM : Mg w w19 (.row BY 1 (.slice so17 ((encS c k 0 t).1.length) ca18) ((encS c k 0 t).1.length) ((Lib.byteCells (encS c k 0 t).1)) :: .row BY 1 (.slice so10 ((encS c k 0 s).1.length) ca11) ((encS c k 0 s).1.length) ((Lib.byteCells (encS c k 0 s).1)) :: .obj g2 (.cells #[.int .i64 c, .int .i64 k, .int .i64 0] 23) :: []) := (hM.both hM16 (noBld_cons (by simp) (noBld_cons (by simp) (noBld_quiet quietL_nil))) (noBld_cons (by simp) (noBld_quiet quietL_nil)))
 refine ⟨_, rfl, ?_⟩
 intro a hA
 refine seq_do hA rfl rfl rfl (does_move rfl) ?_
 intro a hA
 refine seq_do (v := .slice so17 ((encS c k 0 t).1.length) ca18) hA rfl rfl rfl (does_extract (vs := [.slice so17 ((encS c k 0 t).1.length) ca18, .int .i64 ((encS c k 0 t).2.1), .int .i64 ((encS c k 0 t).2.2)]) rfl rfl) ?_
 intro a hA
 refine seq_do (v := .int .i64 ((encS c k 0 t).2.1)) hA rfl rfl rfl (does_extract (vs := [.slice so17 ((encS c k 0 t).1.length) ca18, .int .i64 ((encS c k 0 t).2.1), .int .i64 ((encS c k 0 t).2.2)]) rfl rfl) ?_
 intro a hA
 refine seq_do (v := .int .i64 ((encS c k 0 t).2.2)) hA rfl rfl rfl (does_extract (vs := [.slice so17 ((encS c k 0 t).1.length) ca18, .int .i64 ((encS c k 0 t).2.1), .int .i64 ((encS c k 0 t).2.2)]) rfl rfl) ?_
 intro a hA
 refine seq_do hA rfl rfl rfl (does_assign rfl) ?_
 intro a hA
 refine seq_do hA rfl rfl rfl (does_assign rfl) ?_
 intro a hA
 refine seq_do hA rfl rfl rfl (does_assign rfl) ?_
 intro a hA
 refine seq_end ?_
 refine hK13 _ _ ?_
 refine wp_seq_k (fun K20 hK20 => ?_)
 refine wp_seq_k (fun K21 hK21 => ?_)
 refine wp_region_lit ?_
 refine seq_call hA rfl rfl rfl (enters_func rfl rfl (fun w => by kernel_rfl)) (awake_any) ?_
 rintro _ w23 ⟨rfl, hb22⟩
 replace hM := hM.call hb22
 refine ⟨_, rfl, ?_⟩
 intro a hA
 refine seq_do (v := .bool false) hA rfl rfl rfl (does_un rfl un_not) ?_
 intro a hA
 refine seq_do hA rfl rfl rfl (does_move rfl) ?_
 intro a hA
 refine seq_do hA rfl rfl rfl (does_move rfl) ?_
 intro a hA
 rcases Bool.eq_false_or_eq_true (((encS c k 0 s).2.2 != 0)) with hb24 | hb24
 · have hb24' := bne_iff_ne.1 hb24
   refine seq_do (v := .bool true) hA rfl rfl rfl (does_bin rfl rfl (fun w => (bin_neq w).trans (by rw [hb24]))) ?_
   intro a hA
   refine seq_do (v := .bool true) hA rfl rfl rfl (does_pick rfl rfl rfl rfl) ?_
   intro a hA
   refine seq_do hA rfl rfl rfl (does_move rfl) ?_
   intro a hA
   refine seq_skip hA rfl rfl rfl ?_
   intro a hA
   refine seq_skip hA rfl rfl rfl ?_
   intro a hA
   refine seq_do (v := .bool true) hA rfl rfl rfl (does_pick rfl rfl rfl rfl) ?_
   intro a hA
   refine seq_do hA rfl rfl rfl (does_move rfl) ?_
   intro a hA
   refine seq_skip hA rfl rfl rfl ?_
   intro a hA
   refine seq_skip hA rfl rfl rfl ?_
   intro a hA
   refine seq_skip hA rfl rfl rfl ?_
   intro a hA
   refine seq_skip hA rfl rfl rfl ?_
   intro a hA
   refine seq_skip hA rfl rfl rfl ?_
   intro a hA
   refine seq_skip hA rfl rfl rfl ?_
   intro a hA
   refine seq_do (v := .bool true) hA rfl rfl rfl (does_pick rfl rfl rfl rfl) ?_
   intro a hA
   refine seq_end ?_
   refine hK21 _ _ ?_
   refine wp_cond_true (hA.ev rfl) ?_
   refine wp_seq_k (fun K25 hK25 => ?_)
   refine wp_region_lit ?_
   refine seq_call hA rfl rfl rfl (enters_func rfl rfl (fun w => by kernel_rfl)) (awake_any) ?_
   rintro _ w27 ⟨rfl, hb26⟩
   replace hM := hM.call hb26
   refine ⟨_, rfl, ?_⟩
   intro a hA
   refine seq_do hA rfl rfl rfl (does_assign rfl) ?_
   intro a hA
   refine seq_end ?_
   refine hK25 _ _ ?_
   refine wp_ret ?_
   refine hret _ _ ?_
   refine ends (v := .bool true) hA rfl (.cons (res_tmp rfl) .nil) rfl ?_
   exact ⟨rfl, hM.bel⟩
 · have hb24' := bne_eq_false_iff_eq.1 hb24
   refine seq_do (v := .bool false) hA rfl rfl rfl (does_bin rfl rfl (fun w => (bin_neq w).trans (by rw [hb24]))) ?_
   intro a hA
   refine seq_do (v := .bool false) hA rfl rfl rfl (does_pick rfl rfl rfl rfl) ?_
   intro a hA
   refine seq_do hA rfl rfl rfl (does_move rfl) ?_
   intro a hA
   refine seq_do hA rfl rfl rfl (does_move rfl) ?_
   intro a hA
   rcases Bool.eq_false_or_eq_true (((encS c k 0 t).2.2 != 0)) with hb28 | hb28
   · have hb28' := bne_iff_ne.1 hb28
     refine seq_do (v := .bool true) hA rfl rfl rfl (does_bin rfl rfl (fun w => (bin_neq w).trans (by rw [hb28]))) ?_
     intro a hA
     refine seq_do (v := .bool true) hA rfl rfl rfl (does_pick rfl rfl rfl rfl) ?_
     intro a hA
     refine seq_do hA rfl rfl rfl (does_move rfl) ?_
     intro a hA
     refine seq_skip hA rfl rfl rfl ?_
     intro a hA
     refine seq_skip hA rfl rfl rfl ?_
     intro a hA
     refine seq_skip hA rfl rfl rfl ?_
     intro a hA
     refine seq_skip hA rfl rfl rfl ?_
     intro a hA
     refine seq_skip hA rfl rfl rfl ?_
     intro a hA
     refine seq_skip hA rfl rfl rfl ?_
     intro a hA
     refine seq_do (v := .bool true) hA rfl rfl rfl (does_pick rfl rfl rfl rfl) ?_
     intro a hA
     refine seq_end ?_
     refine hK21 _ _ ?_
     refine wp_cond_true (hA.ev rfl) ?_
     refine wp_seq_k (fun K29 hK29 => ?_)
     refine wp_region_lit ?_
     refine seq_call hA rfl rfl rfl (enters_func rfl rfl (fun w => by kernel_rfl)) (awake_any) ?_
     rintro _ w31 ⟨rfl, hb30⟩
     replace hM := hM.call hb30
     refine ⟨_, rfl, ?_⟩
     intro a hA
     refine seq_do hA rfl rfl rfl (does_assign rfl) ?_
     intro a hA
     refine seq_end ?_
     refine hK29 _ _ ?_
     refine wp_ret ?_
     refine hret _ _ ?_
     refine ends (v := .bool true) hA rfl (.cons (res_tmp rfl) .nil) rfl ?_
     exact ⟨rfl, hM.bel⟩
   · have hb28' := bne_eq_false_iff_eq.1 hb28
     refine seq_do (v := .bool false) hA rfl rfl rfl (does_bin rfl rfl (fun w => (bin_neq w).trans (by rw [hb28]))) ?_
     intro a hA
     refine seq_do (v := .bool false) hA rfl rfl rfl (does_pick rfl rfl rfl rfl) ?_
     intro a hA
     refine seq_do hA rfl rfl rfl (does_move rfl) ?_
     intro a hA
     refine seq_do hA rfl rfl rfl (does_move rfl) ?_
     intro a hA
     refine seq_do (v := .int .i64 (((s.size : Nat) : Int))) hA rfl rfl rfl (does_builtin rfl (len_str Try.underlying9)) ?_
     intro a hA
     refine seq_do hA rfl rfl rfl (does_move rfl) ?_
     intro a hA
     refine seq_do (v := .int .i64 (((t.size : Nat) : Int))) hA rfl rfl rfl (does_builtin rfl (len_str Try.underlying9)) ?_
     intro a hA
     refine seq_do (v := .int .i64 (65536 - ((t.size : Nat) : Int))) hA rfl rfl rfl (does_bin rfl rfl (ar_sub (in_i64 (by omega) (by omega)))) ?_
     intro a hA
     rcases Bool.eq_false_or_eq_true (decide (65536 - ((t.size : Nat) : Int) < ((s.size : Nat) : Int))) with hb32 | hb32
     · have hb32' := of_decide_eq_true hb32
       refine seq_do (v := .bool true) hA rfl rfl rfl (does_bin rfl rfl (fun w => (bin_gtr w).trans (by rw [hb32]))) ?_
       intro a hA
       refine seq_do (v := .bool true) hA rfl rfl rfl (does_pick rfl rfl rfl rfl) ?_
       intro a hA
       refine seq_end ?_
       refine hK21 _ _ ?_
       refine wp_cond_true (hA.ev rfl) ?_
       refine wp_seq_k (fun K33 hK33 => ?_)
       refine wp_region_lit ?_
       refine seq_call hA rfl rfl rfl (enters_func rfl rfl (fun w => by kernel_rfl)) (awake_any) ?_
       rintro _ w35 ⟨rfl, hb34⟩
       replace hM := hM.call hb34
       refine ⟨_, rfl, ?_⟩
       intro a hA
       refine seq_do hA rfl rfl rfl (does_assign rfl) ?_
       intro a hA
       refine seq_end ?_
       refine hK33 _ _ ?_
       refine wp_ret ?_
       refine hret _ _ ?_
       refine ends (v := .bool true) hA rfl (.cons (res_tmp rfl) .nil) rfl ?_
       exact ⟨rfl, hM.bel⟩
     · have hb32' := of_decide_eq_false hb32
       refine seq_do (v := .bool false) hA rfl rfl rfl (does_bin rfl rfl (fun w => (bin_gtr w).trans (by rw [hb32]))) ?_
       intro a hA
       refine seq_do (v := .bool false) hA rfl rfl rfl (does_pick rfl rfl rfl rfl) ?_
       intro a hA
       refine seq_end ?_
       refine hK21 _ _ ?_
       refine wp_cond_false (hA.ev rfl) ?_
       refine wp_skip ?_
       refine hK20 _ _ ?_
       refine wp_seq_k (fun K36 hK36 => ?_)
       refine wp_region_lit ?_
       refine seq_do hA rfl rfl rfl (m_loadS hM CoL_isS_23 rfl 2 rfl (cs := [.int .i64 c, .int .i64 k, .int .i64 0]) rfl rfl) ?_
       intro a hA
       refine seq_do hA rfl rfl rfl (does_move rfl) ?_
       intro a hA
       refine seq_do hA rfl rfl rfl (does_move rfl) ?_
       intro a hA
       refine seq_do (v := .string (s ++ t)) hA rfl rfl rfl (does_bin rfl rfl (bin_addS (by first | omega | assumption))) ?_
       intro a hA
       refine seq_call hA rfl rfl rfl (enters_func rfl rfl (fun w => by kernel_rfl)) (encode_any (c := c) (k := k) (m := 0) (s := s ++ t) rfl) ?_
       rintro _ w42 ⟨v37, rfl, hn38, hM39⟩
       obtain ⟨so40, ca41, rfl⟩ := owns_slice (hM39.has 0 rfl)
       replace hM : Mg w w42 (.row BY 1 (.slice so40 ((encS c k 0 (s ++ t)).1.length) ca41) ((encS c k 0 (s ++ t)).1.length) ((Lib.byteCells (encS c k 0 (s ++ t)).1)) :: .row BY 1 (.slice so17 ((encS c k 0 t).1.length) ca18) ((encS c k 0 t).1.length) ((Lib.byteCells (encS c k 0 t).1)) :: .row BY 1 (.slice so10 ((encS c k 0 s).1.length) ca11) ((encS c k 0 s).1.length) ((Lib.byteCells (encS c k 0 s).1)) :: .obj g2 (.cells #[.int .i64 c, .int .i64 k, .int .i64 0] 23) :: []) := (hM.both hM39 (noBld_cons (by simp) (noBld_cons (by simp) (noBld_cons (by simp) (noBld_quiet quietL_nil)))) (noBld_cons (by simp) (noBld_quiet quietL_nil)))
       refine ⟨_, rfl, ?_⟩
       intro a hA
       refine seq_do hA rfl rfl rfl (does_move rfl) ?_
       intro a hA
       refine seq_do (v := .slice so40 ((encS c k 0 (s ++ t)).1.length) ca41) hA rfl rfl rfl (does_extract (vs := [.slice so40 ((encS c k 0 (s ++ t)).1.length) ca41, .int .i64 ((encS c k 0 (s ++ t)).2.1), .int .i64 ((encS c k 0 (s ++ t)).2.2)]) rfl rfl) ?_
       intro a hA
       refine seq_do (v := .int .i64 ((encS c k 0 (s ++ t)).2.1)) hA rfl rfl rfl (does_extract (vs := [.slice so40 ((encS c k 0 (s ++ t)).1.length) ca41, .int .i64 ((encS c k 0 (s ++ t)).2.1), .int .i64 ((encS c k 0 (s ++ t)).2.2)]) rfl rfl) ?_
       intro a hA
       refine seq_do (v := .int .i64 ((encS c k 0 (s ++ t)).2.2)) hA rfl rfl rfl (does_extract (vs := [.slice so40 ((encS c k 0 (s ++ t)).1.length) ca41, .int .i64 ((encS c k 0 (s ++ t)).2.1), .int .i64 ((encS c k 0 (s ++ t)).2.2)]) rfl rfl) ?_
       intro a hA
       refine seq_do hA rfl rfl rfl (does_assign rfl) ?_
       intro a hA
       refine seq_do hA rfl rfl rfl (does_assign rfl) ?_
       intro a hA
       refine seq_do hA rfl rfl rfl (does_assign rfl) ?_
       intro a hA
       refine seq_end ?_
       refine hK36 _ _ ?_
       refine wp_seq_k (fun K43 hK43 => ?_)
       refine wp_region_lit ?_
       refine seq_do hA rfl rfl rfl (does_move rfl) ?_
       intro a hA
       rcases Bool.eq_false_or_eq_true (((encS c k 0 (s ++ t)).2.2 == 0)) with hb44 | hb44
       · have hb44' := eq_of_beq hb44
         refine seq_do (v := .bool true) hA rfl rfl rfl (does_bin rfl rfl (fun w => (bin_eql w).trans (by rw [hb44]))) ?_
         intro a hA
         refine seq_do hA rfl rfl rfl (does_move rfl) ?_
         intro a hA
         refine seq_do hA rfl rfl rfl (does_move rfl) ?_
         intro a hA
         refine s_lit (vs := []) hA hM rfl rfl rfl (does_buildSlice rfl (by kernel_rfl)) rfl rfl (noBld_cons (by simp) (noBld_cons (by simp) (noBld_cons (by simp) (noBld_cons (by simp) (noBld_quiet quietL_nil))))) ?_
         intro g45 w46 hM a hA
         refine seq_do hA rfl rfl rfl (does_move rfl) ?_
         intro a hA
         refine s_append (k := 0) (q := 0) (m := (encS c k 0 s).1.length) (xs := []) (news := (Lib.byteCells (encS c k 0 s).1)) (L' := fun v47 => (.row BY 1 (v47) (0 + (encS c k 0 s).1.length) ([] ++ (Lib.byteCells (encS c k 0 s).1)) :: .row BY 1 (.slice so40 ((encS c k 0 (s ++ t)).1.length) ca41) ((encS c k 0 (s ++ t)).1.length) ((Lib.byteCells (encS c k 0 (s ++ t)).1)) :: .row BY 1 (.slice so17 ((encS c k 0 t).1.length) ca18) ((encS c k 0 t).1.length) ((Lib.byteCells (encS c k 0 t).1)) :: .row BY 1 (.slice so10 ((encS c k 0 s).1.length) ca11) ((encS c k 0 s).1.length) ((Lib.byteCells (encS c k 0 s).1)) :: .obj g2 (.cells #[.int .i64 c, .int .i64 k, .int .i64 0] 23) :: [])) hA rfl rfl rfl (m_appendG Try.underlying24 (by kernel_rfl) hM 0 rfl rfl 3 rfl rfl (by first | omega | (simp only [List.length_nil]; omega))) (fun _ => rfl) ?_
         intro v47 w48 hM a hA
         refine seq_do hA rfl rfl rfl (does_move rfl) ?_
         intro a hA
         refine s_append (k := 0) (q := 0 + (encS c k 0 s).1.length) (m := (encS c k 0 t).1.length) (xs := [] ++ (Lib.byteCells (encS c k 0 s).1)) (news := (Lib.byteCells (encS c k 0 t).1)) (L' := fun v49 => (.row BY 1 (v49) (0 + (encS c k 0 s).1.length + (encS c k 0 t).1.length) ([] ++ (Lib.byteCells (encS c k 0 s).1) ++ (Lib.byteCells (encS c k 0 t).1)) :: .row BY 1 (.slice so40 ((encS c k 0 (s ++ t)).1.length) ca41) ((encS c k 0 (s ++ t)).1.length) ((Lib.byteCells (encS c k 0 (s ++ t)).1)) :: .row BY 1 (.slice so17 ((encS c k 0 t).1.length) ca18) ((encS c k 0 t).1.length) ((Lib.byteCells (encS c k 0 t).1)) :: .row BY 1 (.slice so10 ((encS c k 0 s).1.length) ca11) ((encS c k 0 s).1.length) ((Lib.byteCells (encS c k 0 s).1)) :: .obj g2 (.cells #[.int .i64 c, .int .i64 k, .int .i64 0] 23) :: [])) hA rfl rfl rfl (m_appendG Try.underlying24 (by kernel_rfl) hM 0 rfl rfl 2 rfl rfl (by first | omega | (simp only [List.length_nil]; omega))) (fun _ => rfl) ?_
         intro v49 w50 hM a hA
         refine seq_call hA rfl rfl rfl (enters_func rfl rfl (fun w => by kernel_rfl)) (same_own hM 1 0 (xs := (encS c k 0 (s ++ t)).1) (ys := (encS c k 0 s).1 ++ (encS c k 0 t).1) rfl (by rw [Lib.byteCells_append]; rfl) (by omega)) ?_
         rintro _ w52 ⟨rfl, hb51⟩
         replace hM := hM.call hb51
         refine ⟨_, rfl, ?_⟩
         intro a hA
         refine seq_do (v := .bool (decide ((encS c k 0 (s ++ t)).1 = (encS c k 0 s).1 ++ (encS c k 0 t).1))) hA rfl rfl rfl (does_pick rfl rfl rfl rfl) ?_
         intro a hA
         refine seq_do hA rfl rfl rfl (does_assign rfl) ?_
         intro a hA
         refine seq_end ?_
         refine hK43 _ _ ?_
         refine wp_ret ?_
         refine hret _ _ ?_
         refine ends (v := .bool (decide ((encS c k 0 (s ++ t)).1 = (encS c k 0 s).1 ++ (encS c k 0 t).1))) hA rfl (.cons (res_tmp rfl) .nil) rfl ?_
         rw [decide_eq_true (enc_joins (c := c) (k := k) (s := s) (t := t) (by omega) (by omega) (by omega)).2]
         exact ⟨rfl, hM.bel⟩
       · have hb44' := ne_of_beq_false hb44
         refine seq_do (v := .bool false) hA rfl rfl rfl (does_bin rfl rfl (fun w => (bin_eql w).trans (by rw [hb44]))) ?_
         intro a hA
         refine seq_do hA rfl rfl rfl (does_move rfl) ?_
         intro a hA
         refine seq_skip hA rfl rfl rfl ?_
         intro a hA
         refine seq_skip hA rfl rfl rfl ?_
         intro a hA
         refine seq_skip hA rfl rfl rfl ?_
         intro a hA
         refine seq_skip hA rfl rfl rfl ?_
         intro a hA
         refine seq_skip hA rfl rfl rfl ?_
         intro a hA
         refine seq_skip hA rfl rfl rfl ?_
         intro a hA
         refine seq_skip hA rfl rfl rfl ?_
         intro a hA
         refine seq_do (v := .bool false) hA rfl rfl rfl (does_pick rfl rfl rfl rfl) ?_
         intro a hA
         refine seq_do hA rfl rfl rfl (does_assign rfl) ?_
         intro a hA
         refine seq_end ?_
         refine hK43 _ _ ?_
         refine wp_ret ?_
         refine hret _ _ ?_
         refine ends (v := .bool false) hA rfl (.cons (res_tmp rfl) .nil) rfl ?_
         have h9 := (enc_joins (c := c) (k := k) (s := s) (t := t) (by omega) (by omega) (by omega)).1
         omega
end Go.Proofs.Ytkngmgddjjefnaa
