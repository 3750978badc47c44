/- The walk of the document's Encode. -/
import Derived.Test.YtcjgjbaadmohbaaCpA
namespace Go.Proofs.Ytcjgjbaadmohbaa
open Go.RowKit
set_option linter.unusedVariables false
set_option linter.unusedSimpArgs false
set_option maxRecDepth 100000
theorem CpB_is1_21 : Is1 Try.prog 21 := ⟨⟨_, Try.underlying21, rfl⟩, by kernel_rfl⟩
theorem CpB_is1_3 : Is1 Try.prog 3 := ⟨⟨_, Try.underlying3, rfl⟩, by kernel_rfl⟩
theorem CpB_is1_4 : Is1 Try.prog 4 := ⟨⟨_, Try.underlying4, rfl⟩, by kernel_rfl⟩
theorem CpB_fld_23_0 : FieldAt Try.prog 23 0 0 := ⟨_, _, Try.underlying23, rfl, rfl, by kernel_rfl⟩
theorem CpB_fld_23_1 : FieldAt Try.prog 23 1 1 := ⟨_, _, Try.underlying23, rfl, rfl, by kernel_rfl⟩
theorem CpB_fld_23_2 : FieldAt Try.prog 23 2 2 := ⟨_, _, Try.underlying23, rfl, rfl, by kernel_rfl⟩
theorem CpB_fld_78_0 : FieldAt Try.prog 78 0 0 := ⟨_, _, Try.underlying78, rfl, rfl, by kernel_rfl⟩
theorem CpB_fld_78_1 : FieldAt Try.prog 78 1 1 := ⟨_, _, Try.underlying78, rfl, rfl, by kernel_rfl⟩
theorem CpB_fld_78_2 : FieldAt Try.prog 78 2 2 := ⟨_, _, Try.underlying78, rfl, rfl, by kernel_rfl⟩
theorem CpB_isS_23 : IsS Try.prog 23 3 := ⟨⟨_, Try.underlying23⟩, by kernel_rfl⟩
theorem rutf8_as {w : World} {so : Option Addr} {cap : Nat} {l : List UInt8} {us : List (Int × Int)} (hb : Rb w so l) (hlen : l.length ≤ 1000000) (hus : unitsU l = us) : Calls Try.prog 49 #[.slice so l.length cap] w fun e w' => ∃ v, e = .returned v ∧ Mg w w' [.row 78 3 v us.length (unitV us)] := hus ▸ rutf8_any hb hlen
set_option maxHeartbeats 2000000 in
theorem rencode_any {w : World} {c k m : Int} {s : ByteArray} {us : List (Int × Int)} (hus : unitsU s.data.toList = us) {R : List UInt8 × Int × Int} (hR : runV (cstep (putC c) m (subS c)) ([], 0, 0) (expand (eolsS k) us) = R) : Calls Try.prog 13 #[.agg #[.int .i64 c, .int .i64 k, .int .i64 m], .string s] w fun e w' => ∃ v, e = .returned (.tuple #[v, .int .i64 (encS c k m s).2.1, .int .i64 (encS c k m s).2.2]) ∧ (encS c k m s).1.length ≤ 100000000 ∧ Mg w w' [.row BY 1 v (encS c k m s).1.length (Lib.byteCells (encS c k m s).1)] := by
 have hok := units_okU s.data.toList
 rw [hus] at hok
 have hlu : us.length ≤ s.size := by
   have h := units_lenF s.data.toList.length 0 s.data.toList
   rw [← hus]
   rw [size_toList] at h
   exact h
 have hM : Mg w w ([]) := Mg.start w
 refine walk_of (l := [(0, .agg #[.int .i64 c, .int .i64 k, .int .i64 m]), (1, .string s)]) Try.func13 rfl Try.ntmps13 rfl rfl ?_
 intro Q hret hnorm hP a hA
 refine wp_seq_k (fun K1 hK1 => ?_)
 refine wp_region_lit ?_
 refine s_new (vs := [.int .i64 c, .int .i64 k, .int .i64 m]) (t := 23) hA hM rfl rfl rfl (fun g => .pointer (some ⟨g, 0, none⟩)) (does_box rfl rfl) (by decide) ?_
 intro g2 w3 hM a hA
 refine seq_do hA rfl rfl rfl (does_assign rfl) ?_
 intro a hA
 refine seq_do hA rfl rfl rfl (does_assign rfl) ?_
 intro a hA
 refine seq_do hA rfl rfl rfl (does_assign rfl) ?_
 intro a hA
 refine seq_end ?_
 refine hK1 _ _ ?_
 refine wp_seq_k (fun K4 hK4 => ?_)
 refine wp_seq_k (fun K5 hK5 => ?_)
 refine wp_region_lit ?_
 refine seq_do hA rfl rfl rfl (m_loadS hM CpB_isS_23 rfl 0 rfl (cs := [.int .i64 c, .int .i64 k, .int .i64 m]) rfl rfl) ?_
 intro a hA
 refine seq_call hA rfl rfl rfl (enters_func rfl rfl (fun w => by kernel_rfl)) (rcheck_any) ?_
 rintro _ w7 ⟨rfl, hb6⟩
 replace hM := hM.call hb6
 refine ⟨_, rfl, ?_⟩
 intro a hA
 rcases Bool.eq_false_or_eq_true ((checkS c k m != 0)) with hb8 | hb8
 · have hb8' := bne_iff_ne.1 hb8
   refine seq_do (v := .bool true) hA rfl rfl rfl (does_bin rfl rfl (fun w => (bin_neq w).trans (by rw [hb8]))) ?_
   intro a hA
   refine seq_end ?_
   refine hK5 _ _ ?_
   refine wp_cond_true (hA.ev rfl) ?_
   refine wp_seq_k (fun K9 hK9 => ?_)
   refine wp_region_lit ?_
   refine seq_do hA rfl rfl rfl (does_assign rfl) ?_
   intro a hA
   refine seq_do hA rfl rfl rfl (does_assign rfl) ?_
   intro a hA
   refine seq_do hA rfl rfl rfl (does_assign rfl) ?_
   intro a hA
   refine seq_end ?_
   refine hK9 _ _ ?_
   refine wp_ret ?_
   refine hret _ _ ?_
   refine ends (v := .tuple #[.slice none 0 0, .int .i64 0, .int .i64 1]) hA rfl (.cons (res_tmp rfl) (.cons (res_tmp rfl) (.cons (res_tmp rfl) .nil))) rfl ?_
   rw [encS_arg (by omega)]
   exact ⟨_, rfl, Nat.zero_le _, nil_end hM⟩
 · have hb8' := bne_eq_false_iff_eq.1 hb8
   refine seq_do (v := .bool false) hA rfl rfl rfl (does_bin rfl rfl (fun w => (bin_neq w).trans (by rw [hb8]))) ?_
   intro a hA
   refine seq_end ?_
   refine hK5 _ _ ?_
   refine wp_cond_false (hA.ev rfl) ?_
   refine wp_skip ?_
   refine hK4 _ _ ?_
   refine wp_seq_k (fun K10 hK10 => ?_)
   refine wp_seq_k (fun K11 hK11 => ?_)
   refine wp_region_lit ?_
   refine seq_do hA rfl rfl rfl (does_move rfl) ?_
   intro a hA
   refine seq_do (v := .int .i64 (((s.size : Nat) : Int))) hA rfl rfl rfl (does_builtin rfl (len_str Try.underlying9)) ?_
   intro a hA
   rcases Bool.eq_false_or_eq_true (decide (65536 < ((s.size : Nat) : Int))) with hb12 | hb12
   · have hb12' := of_decide_eq_true hb12
     refine seq_do (v := .bool true) hA rfl rfl rfl (does_bin rfl rfl (fun w => (bin_gtr w).trans (by rw [hb12]))) ?_
     intro a hA
     refine seq_end ?_
     refine hK11 _ _ ?_
     refine wp_cond_true (hA.ev rfl) ?_
     refine wp_seq_k (fun K13 hK13 => ?_)
     refine wp_region_lit ?_
     refine seq_do hA rfl rfl rfl (does_assign rfl) ?_
     intro a hA
     refine seq_do hA rfl rfl rfl (does_assign rfl) ?_
     intro a hA
     refine seq_do hA rfl rfl rfl (does_assign rfl) ?_
     intro a hA
     refine seq_end ?_
     refine hK13 _ _ ?_
     refine wp_ret ?_
     refine hret _ _ ?_
     refine ends (v := .tuple #[.slice none 0 0, .int .i64 0, .int .i64 4]) hA rfl (.cons (res_tmp rfl) (.cons (res_tmp rfl) (.cons (res_tmp rfl) .nil))) rfl ?_
     rw [encS_large (by omega) (by omega)]
     exact ⟨_, rfl, Nat.zero_le _, nil_end hM⟩
   · have hb12' := of_decide_eq_false hb12
     refine seq_do (v := .bool false) hA rfl rfl rfl (does_bin rfl rfl (fun w => (bin_gtr w).trans (by rw [hb12]))) ?_
     intro a hA
     refine seq_end ?_
     refine hK11 _ _ ?_
     refine wp_cond_false (hA.ev rfl) ?_
     refine wp_skip ?_
     refine hK10 _ _ ?_
     refine wp_seq_k (fun K14 hK14 => ?_)
     have hchk9 := check_in (c := c) (k := k) (m := m) (by omega)
     have hc9 := hchk9.1
     refine wp_region_lit ?_
     refine s_lit (vs := []) hA hM rfl rfl rfl (does_buildSlice rfl (by kernel_rfl)) rfl rfl (noBld_cons (by simp) (noBld_quiet quietL_nil)) ?_
     intro g15 w16 hM a hA
     refine seq_do hA rfl rfl rfl (does_assign rfl) ?_
     intro a hA
     refine seq_end ?_
     refine hK14 _ _ ?_
     refine wp_seq_k (fun K17 hK17 => ?_)
     refine wp_region_lit ?_
     refine seq_do hA rfl rfl rfl (does_move rfl) ?_
     intro a hA
     refine s_bytes hA hM rfl Try.underlying9 Try.underlying24 Try.underlying5 rfl rfl rfl rfl ?_
     intro so18 ca19 w20 hrb21 hM a hA
     refine seq_call hA rfl rfl rfl (enters_func rfl rfl (fun w => by kernel_rfl)) (rutf8_as hrb21 (by rw [size_toList]; omega) hus) ?_
     rintro _ w26 ⟨v22, rfl, hM23⟩
     obtain ⟨so24, ca25, rfl⟩ := owns_sliceE (hM23.has 0 rfl)
     replace hM : Mg w w26 (.row 78 3 (.slice so24 us.length ca25) us.length ((unitV us)) :: .row BY 1 (.slice (some ⟨g15, 0, none⟩) 0 0) 0 ([]) :: .obj g2 (.cells #[.int .i64 c, .int .i64 k, .int .i64 m] 23) :: []) := (hM.both hM23 (noBld_cons (by simp) (noBld_cons (by simp) (noBld_quiet quietL_nil))) (noBld_cons (by simp) (noBld_quiet quietL_nil)))
     refine ⟨_, rfl, ?_⟩
     intro a hA
     refine seq_do hA rfl rfl rfl (does_assign rfl) ?_
     intro a hA
     refine seq_end ?_
     refine hK17 _ _ ?_
     refine wp_seq_k (fun K27 hK27 => ?_)
     refine wp_seq_k (fun K28 hK28 => ?_)
     refine wp_region_lit ?_
     refine seq_do hA rfl rfl rfl (does_assign rfl) ?_
     intro a hA
     refine seq_end ?_
     refine hK28 _ _ ?_
     refine wp_block ?_
     refine wp_loop_n (fun m_ a w1 => ∃ (i : Nat) (acc : List UInt8) (vo : Value), m_ = us.length - i ∧ (runV (cstep (putC c) m (subS c)) (acc, 0, 0) (expand (eolsS k) (us.drop i)) = R ∧ i ≤ us.length ∧ acc.length ≤ 8 * i) ∧ Sl a 110 [(0, .agg #[.int .i64 c, .int .i64 k, .int .i64 m]), (1, .string s), (2, .pointer (some ⟨g2, 0, none⟩)), (7, vo), (8, .slice so24 us.length ca25), (9, .int .i64 (((i : Nat) : Int))), (13, .agg #[.int .i64 c, .int .i64 k, .int .i64 m]), (14, .int .i64 (checkS c k m)), (15, .bool false), (16, .string s), (17, .int .i64 (((s.size : Nat) : Int))), (18, .bool false), (19, .slice (some ⟨g15, 0, none⟩) 0 0), (20, .string s), (21, .slice so18 s.data.toList.length ca19), (22, .slice so24 us.length ca25)] ∧ Mg w w1 (.row 78 3 (.slice so24 us.length ca25) us.length ((unitV us)) :: .row BY 1 (vo) acc.length ((Lib.byteCells acc)) :: .obj g2 (.cells #[.int .i64 c, .int .i64 k, .int .i64 m] 23) :: [])) _ ⟨0, [], .slice (some ⟨g15, 0, none⟩) 0 0, rfl, ⟨by rw [List.drop_zero]; exact hR, Nat.zero_le _, Nat.le_refl _⟩, hA.keep _ ⟨rfl, rfl, rfl, rfl, rfl, rfl, rfl, rfl, rfl, rfl, rfl, rfl, rfl, rfl, rfl, rfl, trivial⟩, hM⟩ ?_
     clear hM hA
     rintro m_ a w29 ⟨i, acc, vo, rfl, hinv31, hA, hM⟩ K30 hK30
     obtain ⟨hrun, hi9, hacc⟩ := hinv31
     refine wp_seq_k (fun K32 hK32 => ?_)
     refine wp_seq_k (fun K33 hK33 => ?_)
     refine wp_region_lit ?_
     refine seq_do hA rfl rfl rfl (does_move rfl) ?_
     intro a hA
     refine seq_do hA rfl rfl rfl (does_move rfl) ?_
     intro a hA
     refine seq_do (v := .int .i64 (((us.length : Nat) : Int))) hA rfl rfl rfl (does_len Try.underlying75 rfl) ?_
     intro a hA
     rcases Bool.eq_false_or_eq_true (decide (((i : Nat) : Int) < ((us.length : Nat) : Int))) with hb34 | hb34
     · have hb34' := of_decide_eq_true hb34
       refine seq_do (v := .bool true) hA rfl rfl rfl (does_bin rfl rfl (fun w => (bin_lss w).trans (by rw [hb34]))) ?_
       intro a hA
       refine seq_end ?_
       refine hK33 _ _ ?_
       refine wp_cond_true (hA.ev rfl) ?_
       refine wp_skip ?_
       refine hK32 _ _ ?_
       refine wp_seq_k (fun K35 hK35 => ?_)
       refine wp_block ?_
       refine wp_seq_k (fun K36 hK36 => ?_)
       refine wp_region_lit ?_
       refine seq_do hA rfl rfl rfl (does_move rfl) ?_
       intro a hA
       refine seq_do hA rfl rfl rfl (does_move rfl) ?_
       intro a hA
       obtain ⟨gu, hgu⟩ := row_addr hM 0 rfl (by omega)
       obtain ⟨ua, ur, hu⟩ := unit_get (us := us) (i := i) (by omega)
       refine seq_do (v := .pointer (some ⟨gu, i * 3, none⟩)) hA rfl rfl rfl (does_indexX Try.underlying75 (by kernel_rfl) rfl rfl rfl hgu (show i < us.length by omega)) ?_
       intro a hA
       refine seq_do (v := .pointer (some ⟨gu, i * 3 + 0, none⟩)) hA rfl rfl rfl (does_field CpB_fld_78_0 rfl rfl) ?_
       intro a hA
       by_cases hf : ur = -1
       · refine seq_do (v := .int .i32 0) hA rfl rfl rfl (m_loadX hM 0 rfl hgu ((unit_bad hu hf (f := 0) (by decide)).trans rfl) CpB_is1_21 rfl) ?_
         intro a hA
         refine s_litE (e := 21) (sz := 1) (m := 1) (vs := [.int .i32 0]) hA hM rfl rfl rfl (does_buildSlice rfl (by kernel_rfl)) rfl rfl (.inl (by decide)) ?_
         intro g37 w38 hM a hA
         refine seq_do hA rfl rfl rfl (does_assign rfl) ?_
         intro a hA
         refine seq_end ?_
         refine hK36 _ _ ?_
         refine wp_seq_k (fun K39 hK39 => ?_)
         refine wp_seq_k (fun K40 hK40 => ?_)
         refine wp_region_lit ?_
         refine seq_do hA rfl rfl rfl (does_move rfl) ?_
         intro a hA
         refine seq_do hA rfl rfl rfl (does_move rfl) ?_
         intro a hA
         refine seq_do (v := .pointer (some ⟨gu, i * 3, none⟩)) hA rfl rfl rfl (does_indexX Try.underlying75 (by kernel_rfl) rfl rfl rfl hgu (show i < us.length by omega)) ?_
         intro a hA
         refine seq_do (v := .pointer (some ⟨gu, i * 3 + 1, none⟩)) hA rfl rfl rfl (does_field CpB_fld_78_1 rfl rfl) ?_
         intro a hA
         refine seq_do (v := .bool true) hA rfl rfl rfl (m_loadX hM 1 rfl hgu ((unit_bad hu hf (f := 1) (by decide)).trans rfl) CpB_is1_4 rfl) ?_
         intro a hA
         refine seq_do (v := .bool false) hA rfl rfl rfl (does_un rfl un_not) ?_
         intro a hA
         refine seq_do hA rfl rfl rfl (does_move rfl) ?_
         intro a hA
         refine seq_skip hA rfl rfl rfl ?_
         intro a hA
         refine seq_skip hA rfl rfl rfl ?_
         intro a hA
         refine seq_skip hA rfl rfl rfl ?_
         intro a hA
         refine seq_skip hA rfl rfl rfl ?_
         intro a hA
         refine seq_skip hA rfl rfl rfl ?_
         intro a hA
         refine seq_skip hA rfl rfl rfl ?_
         intro a hA
         refine seq_do (v := .bool false) hA rfl rfl rfl (does_pick rfl rfl rfl rfl) ?_
         intro a hA
         refine seq_end ?_
         refine hK40 _ _ ?_
         refine wp_cond_false (hA.ev rfl) ?_
         refine wp_skip ?_
         refine hK39 _ _ ?_
         refine wp_seq_k (fun K41 hK41 => ?_)
         refine wp_region_lit ?_
         refine seq_do hA rfl rfl rfl (does_assign rfl) ?_
         intro a hA
         refine seq_end ?_
         refine hK41 _ _ ?_
         refine wp_block ?_
         have hten : ur ≠ 10 := by omega
         have hel := eols_len k
         have hexp := expand_us k (ua, ur) (us.drop (i + 1))
         refine wp_loop_n (fun m_ a w1 => ∃ (j : Nat) (acc2 : List UInt8) (vp : Value), m_ = 8 - j ∧ (runV (cstep (putC c) m (subS c)) (acc2, 0, 0) ((usU k (ua, ur)).drop j ++ expand (eolsS k) (us.drop (i + 1))) = R ∧ j ≤ 1 ∧ acc2.length ≤ 8 * i + 4 * j) ∧ Sl a 110 [(0, .agg #[.int .i64 c, .int .i64 k, .int .i64 m]), (1, .string s), (2, .pointer (some ⟨g2, 0, none⟩)), (7, vp), (8, .slice so24 us.length ca25), (9, .int .i64 (((i : Nat) : Int))), (10, .slice (some ⟨g37, 0, none⟩) 1 1), (11, .int .i64 (((j : Nat) : Int))), (13, .agg #[.int .i64 c, .int .i64 k, .int .i64 m]), (14, .int .i64 (checkS c k m)), (15, .bool false), (16, .string s), (17, .int .i64 (((s.size : Nat) : Int))), (18, .bool false), (19, .slice (some ⟨g15, 0, none⟩) 0 0), (20, .string s), (21, .slice so18 s.data.toList.length ca19), (22, .slice so24 us.length ca25), (23, .int .i64 (((i : Nat) : Int))), (24, .slice so24 us.length ca25), (25, .int .i64 (((us.length : Nat) : Int))), (26, .bool true), (29, .slice so24 us.length ca25), (30, .int .i64 (((i : Nat) : Int))), (31, .pointer (some ⟨gu, i * 3, none⟩)), (32, .pointer (some ⟨gu, i * 3 + 0, none⟩)), (33, .int .i32 0), (34, .slice (some ⟨g37, 0, none⟩) 1 1), (35, .slice so24 us.length ca25), (36, .int .i64 (((i : Nat) : Int))), (37, .pointer (some ⟨gu, i * 3, none⟩)), (38, .pointer (some ⟨gu, i * 3 + 1, none⟩)), (39, .bool true), (40, .bool false), (41, .bool false), (48, .bool false)] ∧ Mg w w1 (.row 21 1 (.slice (some ⟨g37, 0, none⟩) 1 1) 1 ((runeV ([0]))) :: .row 78 3 (.slice so24 us.length ca25) us.length ((unitV us)) :: .row BY 1 (vp) acc2.length ((Lib.byteCells acc2)) :: .obj g2 (.cells #[.int .i64 c, .int .i64 k, .int .i64 m] 23) :: [])) _ ⟨0, acc, vo, rfl, ⟨by rw [List.drop_zero, ← hexp, ← drop_unit hu]; exact hrun, Nat.zero_le _, by omega⟩, hA.keep _ ⟨rfl, rfl, rfl, rfl, rfl, rfl, rfl, rfl, rfl, rfl, rfl, rfl, rfl, rfl, rfl, rfl, rfl, rfl, rfl, rfl, rfl, rfl, rfl, rfl, rfl, rfl, rfl, rfl, rfl, rfl, rfl, rfl, rfl, rfl, rfl, rfl, trivial⟩, hM⟩ ?_
         clear hM hA
         rintro m_ a w42 ⟨j, acc2, vp, rfl, hinv44, hA, hM⟩ K43 hK43
         obtain ⟨hrun2, hj9, hacc2⟩ := hinv44
         refine wp_seq_k (fun K45 hK45 => ?_)
         refine wp_seq_k (fun K46 hK46 => ?_)
         refine wp_region_lit ?_
         refine seq_do hA rfl rfl rfl (does_move rfl) ?_
         intro a hA
         refine seq_do hA rfl rfl rfl (does_move rfl) ?_
         intro a hA
         refine seq_do (v := .int .i64 1) hA rfl rfl rfl (does_len Try.underlying74 rfl) ?_
         intro a hA
         rcases Bool.eq_false_or_eq_true (decide (((j : Nat) : Int) < 1)) with hb47 | hb47
         · have hb47' := of_decide_eq_true hb47
           refine seq_do (v := .bool true) hA rfl rfl rfl (does_bin rfl rfl (fun w => (bin_lss w).trans (by rw [hb47]))) ?_
           intro a hA
           refine seq_end ?_
           refine hK46 _ _ ?_
           refine wp_cond_true (hA.ev rfl) ?_
           refine wp_skip ?_
           refine hK45 _ _ ?_
           refine wp_seq_k (fun K48 hK48 => ?_)
           refine wp_block ?_
           refine wp_seq_k (fun K49 hK49 => ?_)
           refine wp_draw (S := fun w1 => Mg w w1 (.row 21 1 (.slice (some ⟨g37, 0, none⟩) 1 1) 1 ((runeV ([0]))) :: .obj g2 (.cells #[.int .i64 c, .int .i64 k, .int .i64 m] 23) :: [])) (by kernel_rfl) ?_
           replace hM := hM.drew
           refine any_tk (v := .pointer (some ⟨g2, 0, none⟩)) hA 0 rfl rfl rfl rfl hP (hM.sub (.cons_cons _ (.cons _ (.cons _ (.cons_cons _ (List.nil_sublist _)))))) (fun w1 hM => does_field CpB_fld_23_0 rfl rfl) ?_
           intro a hA
           refine any_tk hA 1 rfl rfl rfl rfl hP (hM.sub (.cons_cons _ (.cons _ (.cons _ (.cons_cons _ (List.nil_sublist _)))))) (fun w1 hM => m_load1 hM CpB_is1_3 rfl 1 rfl rfl) ?_
           intro a hA
           refine any_tk hA 2 rfl rfl rfl rfl hP (hM.sub (.cons_cons _ (.cons _ (.cons _ (.cons_cons _ (List.nil_sublist _)))))) (fun w1 hM => does_move rfl) ?_
           intro a hA
           refine any_tk hA 3 rfl rfl rfl rfl hP (hM.sub (.cons_cons _ (.cons _ (.cons _ (.cons_cons _ (List.nil_sublist _)))))) (fun w1 hM => does_move rfl) ?_
           intro a hA
           refine any_tk (v := .pointer (some ⟨g37, j * 1, none⟩)) hA 4 rfl rfl rfl rfl hP (hM.sub (.cons_cons _ (.cons _ (.cons _ (.cons_cons _ (List.nil_sublist _)))))) (fun w1 hM => does_indexX Try.underlying74 (by kernel_rfl) rfl rfl rfl rfl (show j < 1 by omega)) ?_
           intro a hA
           refine any_tk (v := .int .i32 (([0]).getD j 0)) hA 5 rfl rfl rfl rfl hP (hM.sub (.cons_cons _ (.cons _ (.cons _ (.cons_cons _ (List.nil_sublist _)))))) (fun w1 hM => m_loadX hM 0 rfl rfl (rune_at (ls := [0]) (by first | omega | (simp only [List.length_cons, List.length_nil]; omega))) CpB_is1_21 rfl) ?_
           intro a hA
           have hok9 : OkC (([0]).getD j 0) := by rw [show j = 0 from by omega]; exact ok_zero
           rcases Bool.eq_false_or_eq_true (hasS c (([0]).getD j 0)) with hb50 | hb50
           · refine any_one (by kernel_rfl) (op_call hA 6 rfl rfl rfl rfl (enters_func rfl rfl (fun w => by kernel_rfl)) (rput_has hc9 hok9 hb50) ?_)
             rintro _ w55 ⟨v51, rfl, hM52⟩
             obtain ⟨so53, ca54, rfl⟩ := owns_sliceE (hM52.has 0 rfl)
             have hpos9 := encC_pos (c := c) hok9
             have hle9 := encC_le c (([0]).getD j 0)
             replace hM : Mg w w55 (.row BY 1 (.slice so53 ((encC c (([0]).getD j 0)).length) ca54) ((encC c (([0]).getD j 0)).length) ((Lib.byteCells (encC c (([0]).getD j 0)))) :: .row 21 1 (.slice (some ⟨g37, 0, none⟩) 1 1) 1 ((runeV ([0]))) :: .row 78 3 (.slice so24 us.length ca25) us.length ((unitV us)) :: .row BY 1 (vp) acc2.length ((Lib.byteCells acc2)) :: .obj g2 (.cells #[.int .i64 c, .int .i64 k, .int .i64 m] 23) :: []) := (hM.both hM52 (noBld_cons (by simp) (noBld_cons (by simp) (noBld_cons (by simp) (noBld_cons (by simp) (noBld_quiet quietL_nil))))) (noBld_cons (by simp) (noBld_quiet quietL_nil)))
             refine ⟨_, rfl, (hM.sub (.cons _ (.cons_cons _ (.cons _ (.cons _ (.cons_cons _ (List.nil_sublist _))))))), ?_⟩
             intro a hA
             refine any_tk hA 7 rfl rfl rfl rfl hP (hM.sub (.cons _ (.cons_cons _ (.cons _ (.cons _ (.cons_cons _ (List.nil_sublist _))))))) (fun w1 hM => does_assign rfl) ?_
             intro a hA
             refine any_end (by kernel_rfl) ?_
             refine hK49 _ _ ?_
             refine wp_seq_k (fun K56 hK56 => ?_)
             refine wp_seq_k (fun K57 hK57 => ?_)
             refine wp_region_lit ?_
             refine seq_do hA rfl rfl rfl (does_move rfl) ?_
             intro a hA
             refine seq_do hA rfl rfl rfl (does_move rfl) ?_
             intro a hA
             refine seq_do (v := .pointer (some ⟨gu, i * 3, none⟩)) hA rfl rfl rfl (does_indexX Try.underlying75 (by kernel_rfl) rfl rfl rfl hgu (show i < us.length by omega)) ?_
             intro a hA
             refine seq_do (v := .pointer (some ⟨gu, i * 3 + 1, none⟩)) hA rfl rfl rfl (does_field CpB_fld_78_1 rfl rfl) ?_
             intro a hA
             refine seq_do (v := .bool true) hA rfl rfl rfl (m_loadX hM 2 rfl hgu ((unit_bad hu hf (f := 1) (by decide)).trans rfl) CpB_is1_4 rfl) ?_
             intro a hA
             refine seq_do (v := .bool false) hA rfl rfl rfl (does_un rfl un_not) ?_
             intro a hA
             refine seq_do hA rfl rfl rfl (does_move rfl) ?_
             intro a hA
             refine seq_skip hA rfl rfl rfl ?_
             intro a hA
             refine seq_skip hA rfl rfl rfl ?_
             intro a hA
             refine seq_skip hA rfl rfl rfl ?_
             intro a hA
             refine seq_do (v := .bool false) hA rfl rfl rfl (does_pick rfl rfl rfl rfl) ?_
             intro a hA
             refine seq_end ?_
             refine hK57 _ _ ?_
             refine wp_cond_false (hA.ev rfl) ?_
             refine wp_skip ?_
             refine hK56 _ _ ?_
             refine wp_block ?_
             refine wp_seq_k (fun K58 hK58 => ?_)
             refine wp_region_lit ?_
             refine seq_do (v := .pointer (some ⟨g2, 2, none⟩)) hA rfl rfl rfl (does_field CpB_fld_23_2 rfl rfl) ?_
             intro a hA
             refine seq_do hA rfl rfl rfl (m_load1 hM CpB_is1_3 rfl 4 rfl rfl) ?_
             intro a hA
             rcases Bool.eq_false_or_eq_true ((m == 0)) with hb59 | hb59
             · have hb59' := eq_of_beq hb59
               refine seq_do (v := .bool true) hA rfl rfl rfl (does_bin rfl rfl (fun w => (bin_eql w).trans (by rw [hb59]))) ?_
               intro a hA
               refine seq_do hA rfl rfl rfl (does_assign rfl) ?_
               intro a hA
               refine seq_end ?_
               refine hK58 _ _ ?_
               refine wp_cond_true (hA.ev rfl) ?_
               refine wp_seq_k (fun K60 hK60 => ?_)
               refine wp_draw (S := fun w1 => Mg w w1 (.row 78 3 (.slice so24 us.length ca25) us.length ((unitV us)) :: [])) (by kernel_rfl) ?_
               replace hM := hM.drew
               refine any_tk hA 0 rfl rfl rfl rfl hP (hM.sub (.cons _ (.cons _ (.cons_cons _ (.cons _ (.cons _ (List.nil_sublist _))))))) (fun w1 hM => does_move rfl) ?_
               intro a hA
               refine any_tk hA 1 rfl rfl rfl rfl hP (hM.sub (.cons _ (.cons _ (.cons_cons _ (.cons _ (.cons _ (List.nil_sublist _))))))) (fun w1 hM => does_move rfl) ?_
               intro a hA
               refine any_tk (v := .pointer (some ⟨gu, i * 3, none⟩)) hA 2 rfl rfl rfl rfl hP (hM.sub (.cons _ (.cons _ (.cons_cons _ (.cons _ (.cons _ (List.nil_sublist _))))))) (fun w1 hM => does_indexX Try.underlying75 (by kernel_rfl) rfl rfl rfl hgu (show i < us.length by omega)) ?_
               intro a hA
               refine any_tk (v := .pointer (some ⟨gu, i * 3 + 2, none⟩)) hA 3 rfl rfl rfl rfl hP (hM.sub (.cons _ (.cons _ (.cons_cons _ (.cons _ (.cons _ (List.nil_sublist _))))))) (fun w1 hM => does_field CpB_fld_78_2 rfl rfl) ?_
               intro a hA
               refine any_tk (v := .int .i64 ua) hA 4 rfl rfl rfl rfl hP (hM.sub (.cons _ (.cons _ (.cons_cons _ (.cons _ (.cons _ (List.nil_sublist _))))))) (fun w1 hM => m_loadX hM 0 rfl hgu ((unit_bad hu hf (f := 2) (by decide)).trans rfl) CpB_is1_3 rfl) ?_
               intro a hA
               refine any_tk hA 5 rfl rfl rfl rfl hP (hM.sub (.cons _ (.cons _ (.cons_cons _ (.cons _ (.cons _ (List.nil_sublist _))))))) (fun w1 hM => does_assign rfl) ?_
               intro a hA
               refine any_tk hA 6 rfl rfl rfl rfl hP (hM.sub (.cons _ (.cons _ (.cons_cons _ (.cons _ (.cons _ (List.nil_sublist _))))))) (fun w1 hM => does_assign rfl) ?_
               intro a hA
               refine any_tk hA 7 rfl rfl rfl rfl hP (hM.sub (.cons _ (.cons _ (.cons_cons _ (.cons _ (.cons _ (List.nil_sublist _))))))) (fun w1 hM => does_assign rfl) ?_
               intro a hA
               refine any_end (by kernel_rfl) ?_
               refine hK60 _ _ ?_
               refine wp_ret ?_
               refine hret _ _ ?_
               refine ends (v := .tuple #[.slice none 0 0, .int .i64 ua, .int .i64 6]) hA rfl (.cons (res_tmp rfl) (.cons (res_tmp rfl) (.cons (res_tmp rfl) .nil))) rfl ?_
               rw [us_one (k := k) (ua := ua) (ur := ur) hten (j := j) (by omega), List.cons_append, run_bad0 (by omega) (.inl (by omega))] at hrun2
               rw [encS_go (by omega) (by omega) (hus ▸ hR), ← hrun2, if_pos (show ¬ ((6 : Int) = 0) by decide)]
               exact ⟨_, rfl, Nat.zero_le _, nil_end hM⟩
             · have hb59' := ne_of_beq_false hb59
               refine seq_do (v := .bool false) hA rfl rfl rfl (does_bin rfl rfl (fun w => (bin_eql w).trans (by rw [hb59]))) ?_
               intro a hA
               refine seq_do hA rfl rfl rfl (does_assign rfl) ?_
               intro a hA
               refine seq_end ?_
               refine hK58 _ _ ?_
               refine wp_cond_false (hA.ev rfl) ?_
               refine wp_seq_k (fun K61 hK61 => ?_)
               refine wp_region_lit ?_
               refine seq_do (v := .pointer (some ⟨g2, 2, none⟩)) hA rfl rfl rfl (does_field CpB_fld_23_2 rfl rfl) ?_
               intro a hA
               refine seq_do hA rfl rfl rfl (m_load1 hM CpB_is1_3 rfl 4 rfl rfl) ?_
               intro a hA
               rcases Bool.eq_false_or_eq_true ((m == 1)) with hb62 | hb62
               · have hb62' := eq_of_beq hb62
                 refine seq_do (v := .bool true) hA rfl rfl rfl (does_bin rfl rfl (fun w => (bin_eql w).trans (by rw [hb62]))) ?_
                 intro a hA
                 refine seq_do hA rfl rfl rfl (does_move rfl) ?_
                 intro a hA
                 refine seq_do (v := .pointer (some ⟨g2, 0, none⟩)) hA rfl rfl rfl (does_field CpB_fld_23_0 rfl rfl) ?_
                 intro a hA
                 refine seq_do hA rfl rfl rfl (m_load1 hM CpB_is1_3 rfl 4 rfl rfl) ?_
                 intro a hA
                 rcases Bool.eq_false_or_eq_true ((c == 2)) with hb63 | hb63
                 · have hb63' := eq_of_beq hb63
                   refine seq_do (v := .bool true) hA rfl rfl rfl (does_bin rfl rfl (fun w => (bin_eql w).trans (by rw [hb63]))) ?_
                   intro a hA
                   refine seq_do (v := .bool true) hA rfl rfl rfl (does_pick rfl rfl rfl rfl) ?_
                   intro a hA
                   refine seq_do hA rfl rfl rfl (does_assign rfl) ?_
                   intro a hA
                   refine seq_end ?_
                   refine hK61 _ _ ?_
                   refine wp_cond_true (hA.ev rfl) ?_
                   refine wp_region_lit ?_
                   refine seq_do hA rfl rfl rfl (does_move rfl) ?_
                   intro a hA
                   refine s_lit (vs := [.int .u8 63]) hA hM rfl rfl rfl (does_buildSlice rfl (by kernel_rfl)) rfl rfl (noBld_cons (by simp) (noBld_cons (by simp) (noBld_cons (by simp) (noBld_cons (by simp) (noBld_cons (by simp) (noBld_quiet quietL_nil)))))) ?_
                   intro g64 w65 hM a hA
                   refine s_append (k := 4) (q := acc2.length) (m := 1) (xs := (Lib.byteCells acc2)) (news := [.int .u8 63]) (L' := fun v66 => (.row BY 1 (.slice (some ⟨g64, 0, none⟩) 1 1) 1 ([.int .u8 63]) :: .row BY 1 (.slice so53 ((encC c (([0]).getD j 0)).length) ca54) ((encC c (([0]).getD j 0)).length) ((Lib.byteCells (encC c (([0]).getD j 0)))) :: .row 21 1 (.slice (some ⟨g37, 0, none⟩) 1 1) 1 ((runeV ([0]))) :: .row 78 3 (.slice so24 us.length ca25) us.length ((unitV us)) :: .row BY 1 (v66) (acc2.length + 1) ((Lib.byteCells acc2) ++ [.int .u8 63]) :: .obj g2 (.cells #[.int .i64 c, .int .i64 k, .int .i64 m] 23) :: [])) hA rfl rfl rfl (m_append Try.underlying24 (by kernel_rfl) hM 4 rfl rfl 0 rfl rfl rfl rfl (by omega)) (fun _ => rfl) ?_
                   intro v66 w67 hM a hA
                   refine seq_do hA rfl rfl rfl (does_assign rfl) ?_
                   intro a hA
                   refine seq_end ?_
                   refine hK48 _ _ ?_
                   refine wp_region_lit ?_
                   refine seq_do hA rfl rfl rfl (does_move rfl) ?_
                   intro a hA
                   refine seq_do (v := .int .i64 (((j + 1 : Nat) : Int))) hA rfl rfl rfl (does_bin rfl rfl (ar_add ((in_i64 (by omega) (by omega)).trans (by omega)))) ?_
                   intro a hA
                   refine seq_do hA rfl rfl rfl (does_assign rfl) ?_
                   intro a hA
                   refine seq_end ?_
                   replace hM : Mg w w67 (.row 21 1 (.slice (some ⟨g37, 0, none⟩) 1 1) 1 ((runeV ([0]))) :: .row 78 3 (.slice so24 us.length ca25) us.length ((unitV us)) :: .row BY 1 (v66) ((acc2 ++ encC c (subS c)).length) ((Lib.byteCells (acc2 ++ encC c (subS c)))) :: .obj g2 (.cells #[.int .i64 c, .int .i64 k, .int .i64 m] 23) :: []) := by
                     have h9 := hM.sub (.cons _ (.cons _ (.cons_cons _ (.cons_cons _ (.cons_cons _ (.cons_cons _ (.refl _)))))))
                     rw [sub_two (by omega)]
                     rw [List.length_append, Lib.byteCells_append]
                     exact h9
                   refine hK43 _ _ _ (by omega) ⟨j + 1, acc2 ++ encC c (subS c), v66, rfl, ⟨by rw [← hrun2, us_one (k := k) (ua := ua) (ur := ur) hten (j := j) (by omega), List.cons_append]; exact (run_bad1 (by omega) (.inl (by omega))).symm, by omega, by rw [List.length_append]; have h8 := encC_le c (subS c); omega⟩, hA.keep _ ⟨rfl, rfl, rfl, rfl, rfl, rfl, rfl, rfl, rfl, rfl, rfl, rfl, rfl, rfl, rfl, rfl, rfl, rfl, rfl, rfl, rfl, rfl, rfl, rfl, rfl, rfl, rfl, rfl, rfl, rfl, rfl, rfl, rfl, rfl, rfl, rfl, trivial⟩, hM⟩
                 · have hb63' := ne_of_beq_false hb63
                   refine seq_do (v := .bool false) hA rfl rfl rfl (does_bin rfl rfl (fun w => (bin_eql w).trans (by rw [hb63]))) ?_
                   intro a hA
                   refine seq_do (v := .bool false) hA rfl rfl rfl (does_pick rfl rfl rfl rfl) ?_
                   intro a hA
                   refine seq_do hA rfl rfl rfl (does_assign rfl) ?_
                   intro a hA
                   refine seq_end ?_
                   refine hK61 _ _ ?_
                   refine wp_cond_false (hA.ev rfl) ?_
                   refine wp_seq_k (fun K68 hK68 => ?_)
                   refine wp_region_lit ?_
                   refine seq_do (v := .pointer (some ⟨g2, 2, none⟩)) hA rfl rfl rfl (does_field CpB_fld_23_2 rfl rfl) ?_
                   intro a hA
                   refine seq_do hA rfl rfl rfl (m_load1 hM CpB_is1_3 rfl 4 rfl rfl) ?_
                   intro a hA
                   refine seq_do (v := .bool true) hA rfl rfl rfl (does_bin rfl rfl (fun w => (bin_eql w).trans (by rw [show ((m == 1)) = true from hb62]))) ?_
                   intro a hA
                   refine seq_do hA rfl rfl rfl (does_assign rfl) ?_
                   intro a hA
                   refine seq_end ?_
                   refine hK68 _ _ ?_
                   refine wp_cond_true (hA.ev rfl) ?_
                   refine wp_region_lit ?_
                   refine seq_do hA rfl rfl rfl (does_move rfl) ?_
                   intro a hA
                   refine seq_do (v := .pointer (some ⟨g2, 0, none⟩)) hA rfl rfl rfl (does_field CpB_fld_23_0 rfl rfl) ?_
                   intro a hA
                   refine seq_do hA rfl rfl rfl (m_load1 hM CpB_is1_3 rfl 4 rfl rfl) ?_
                   intro a hA
                   refine seq_call hA rfl rfl rfl (enters_func rfl rfl (fun w => by kernel_rfl)) (rput_has hc9 (by unfold OkC; omega) (by unfold hasS; simp; omega)) ?_
                   rintro _ w73 ⟨v69, rfl, hM70⟩
                   obtain ⟨so71, ca72, rfl⟩ := owns_sliceE (hM70.has 0 rfl)
                   have hle8 := encC_le c 65533
                   replace hM : Mg w w73 (.row BY 1 (.slice so71 ((encC c 65533).length) ca72) ((encC c 65533).length) ((Lib.byteCells (encC c 65533))) :: .row BY 1 (.slice so53 ((encC c (([0]).getD j 0)).length) ca54) ((encC c (([0]).getD j 0)).length) ((Lib.byteCells (encC c (([0]).getD j 0)))) :: .row 21 1 (.slice (some ⟨g37, 0, none⟩) 1 1) 1 ((runeV ([0]))) :: .row 78 3 (.slice so24 us.length ca25) us.length ((unitV us)) :: .row BY 1 (vp) acc2.length ((Lib.byteCells acc2)) :: .obj g2 (.cells #[.int .i64 c, .int .i64 k, .int .i64 m] 23) :: []) := (hM.both hM70 (noBld_cons (by simp) (noBld_cons (by simp) (noBld_cons (by simp) (noBld_cons (by simp) (noBld_cons (by simp) (noBld_quiet quietL_nil)))))) (noBld_cons (by simp) (noBld_quiet quietL_nil)))
                   refine ⟨_, rfl, ?_⟩
                   intro a hA
                   refine s_append (k := 4) (q := acc2.length) (m := (encC c 65533).length) (xs := (Lib.byteCells acc2)) (news := (Lib.byteCells (encC c 65533))) (L' := fun v74 => (.row BY 1 (.slice so71 ((encC c 65533).length) ca72) ((encC c 65533).length) ((Lib.byteCells (encC c 65533))) :: .row BY 1 (.slice so53 ((encC c (([0]).getD j 0)).length) ca54) ((encC c (([0]).getD j 0)).length) ((Lib.byteCells (encC c (([0]).getD j 0)))) :: .row 21 1 (.slice (some ⟨g37, 0, none⟩) 1 1) 1 ((runeV ([0]))) :: .row 78 3 (.slice so24 us.length ca25) us.length ((unitV us)) :: .row BY 1 (v74) (acc2.length + (encC c 65533).length) ((Lib.byteCells acc2) ++ (Lib.byteCells (encC c 65533))) :: .obj g2 (.cells #[.int .i64 c, .int .i64 k, .int .i64 m] 23) :: [])) hA rfl rfl rfl (m_appendG Try.underlying24 (by kernel_rfl) hM 4 rfl rfl 0 rfl rfl (by first | omega | (simp only [List.length_nil]; omega))) (fun _ => rfl) ?_
                   intro v74 w75 hM a hA
                   refine seq_do hA rfl rfl rfl (does_assign rfl) ?_
                   intro a hA
                   refine seq_end ?_
                   refine hK48 _ _ ?_
                   refine wp_region_lit ?_
                   refine seq_do hA rfl rfl rfl (does_move rfl) ?_
                   intro a hA
                   refine seq_do (v := .int .i64 (((j + 1 : Nat) : Int))) hA rfl rfl rfl (does_bin rfl rfl (ar_add ((in_i64 (by omega) (by omega)).trans (by omega)))) ?_
                   intro a hA
                   refine seq_do hA rfl rfl rfl (does_assign rfl) ?_
                   intro a hA
                   refine seq_end ?_
                   replace hM : Mg w w75 (.row 21 1 (.slice (some ⟨g37, 0, none⟩) 1 1) 1 ((runeV ([0]))) :: .row 78 3 (.slice so24 us.length ca25) us.length ((unitV us)) :: .row BY 1 (v74) ((acc2 ++ encC c (subS c)).length) ((Lib.byteCells (acc2 ++ encC c (subS c)))) :: .obj g2 (.cells #[.int .i64 c, .int .i64 k, .int .i64 m] 23) :: []) := by
                     have h9 := hM.sub (.cons _ (.cons _ (.cons_cons _ (.cons_cons _ (.cons_cons _ (.cons_cons _ (.refl _)))))))
                     rw [sub_else (by omega)]
                     rw [List.length_append, Lib.byteCells_append]
                     exact h9
                   refine hK43 _ _ _ (by omega) ⟨j + 1, acc2 ++ encC c (subS c), v74, rfl, ⟨by rw [← hrun2, us_one (k := k) (ua := ua) (ur := ur) hten (j := j) (by omega), List.cons_append]; exact (run_bad1 (by omega) (.inl (by omega))).symm, by omega, by rw [List.length_append]; have h8 := encC_le c (subS c); omega⟩, hA.keep _ ⟨rfl, rfl, rfl, rfl, rfl, rfl, rfl, rfl, rfl, rfl, rfl, rfl, rfl, rfl, rfl, rfl, rfl, rfl, rfl, rfl, rfl, rfl, rfl, rfl, rfl, rfl, rfl, rfl, rfl, rfl, rfl, rfl, rfl, rfl, rfl, rfl, trivial⟩, hM⟩
               · have hb62' := ne_of_beq_false hb62
                 refine seq_do (v := .bool false) hA rfl rfl rfl (does_bin rfl rfl (fun w => (bin_eql w).trans (by rw [hb62]))) ?_
                 intro a hA
                 refine seq_do hA rfl rfl rfl (does_move rfl) ?_
                 intro a hA
                 refine seq_skip hA rfl rfl rfl ?_
                 intro a hA
                 refine seq_skip hA rfl rfl rfl ?_
                 intro a hA
                 refine seq_skip hA rfl rfl rfl ?_
                 intro a hA
                 refine seq_do (v := .bool false) hA rfl rfl rfl (does_pick rfl rfl rfl rfl) ?_
                 intro a hA
                 refine seq_do hA rfl rfl rfl (does_assign rfl) ?_
                 intro a hA
                 refine seq_end ?_
                 refine hK61 _ _ ?_
                 refine wp_cond_false (hA.ev rfl) ?_
                 refine wp_seq_k (fun K76 hK76 => ?_)
                 refine wp_region_lit ?_
                 refine seq_do (v := .pointer (some ⟨g2, 2, none⟩)) hA rfl rfl rfl (does_field CpB_fld_23_2 rfl rfl) ?_
                 intro a hA
                 refine seq_do hA rfl rfl rfl (m_load1 hM CpB_is1_3 rfl 4 rfl rfl) ?_
                 intro a hA
                 refine seq_do (v := .bool false) hA rfl rfl rfl (does_bin rfl rfl (fun w => (bin_eql w).trans (by rw [show ((m == 1)) = false from hb62]))) ?_
                 intro a hA
                 refine seq_do hA rfl rfl rfl (does_assign rfl) ?_
                 intro a hA
                 refine seq_end ?_
                 refine hK76 _ _ ?_
                 refine wp_cond_false (hA.ev rfl) ?_
                 refine wp_skip ?_
                 refine hK48 _ _ ?_
                 refine wp_region_lit ?_
                 refine seq_do hA rfl rfl rfl (does_move rfl) ?_
                 intro a hA
                 refine seq_do (v := .int .i64 (((j + 1 : Nat) : Int))) hA rfl rfl rfl (does_bin rfl rfl (ar_add ((in_i64 (by omega) (by omega)).trans (by omega)))) ?_
                 intro a hA
                 refine seq_do hA rfl rfl rfl (does_assign rfl) ?_
                 intro a hA
                 refine seq_end ?_
                 replace hM : Mg w w55 (.row 21 1 (.slice (some ⟨g37, 0, none⟩) 1 1) 1 ((runeV ([0]))) :: .row 78 3 (.slice so24 us.length ca25) us.length ((unitV us)) :: .row BY 1 (vp) acc2.length ((Lib.byteCells acc2)) :: .obj g2 (.cells #[.int .i64 c, .int .i64 k, .int .i64 m] 23) :: []) := by
                   have h9 := hM.sub (.cons _ (.cons_cons _ (.cons_cons _ (.cons_cons _ (.cons_cons _ (.refl _))))))
                   exact h9
                 refine hK43 _ _ _ (by omega) ⟨j + 1, acc2, vp, rfl, ⟨by rw [← hrun2, us_one (k := k) (ua := ua) (ur := ur) hten (j := j) (by omega), List.cons_append]; exact (run_bad2 (by omega) (by omega) (.inl (by omega))).symm, by omega, by omega⟩, hA.keep _ ⟨rfl, rfl, rfl, rfl, rfl, rfl, rfl, rfl, rfl, rfl, rfl, rfl, rfl, rfl, rfl, rfl, rfl, rfl, rfl, rfl, rfl, rfl, rfl, rfl, rfl, rfl, rfl, rfl, rfl, rfl, rfl, rfl, rfl, rfl, rfl, rfl, trivial⟩, hM⟩
           · refine any_one (by kernel_rfl) (op_call hA 6 rfl rfl rfl rfl (enters_func rfl rfl (fun w => by kernel_rfl)) (rput_not hc9 hok9 hb50) ?_)
             rintro _ w81 ⟨v77, rfl, hM78⟩
             obtain ⟨so79, ca80, rfl⟩ := owns_sliceE (hM78.has 0 rfl)
             replace hM : Mg w w81 (.row BY 1 (.slice so79 0 ca80) 0 ((Lib.byteCells [])) :: .row 21 1 (.slice (some ⟨g37, 0, none⟩) 1 1) 1 ((runeV ([0]))) :: .row 78 3 (.slice so24 us.length ca25) us.length ((unitV us)) :: .row BY 1 (vp) acc2.length ((Lib.byteCells acc2)) :: .obj g2 (.cells #[.int .i64 c, .int .i64 k, .int .i64 m] 23) :: []) := (hM.both hM78 (noBld_cons (by simp) (noBld_cons (by simp) (noBld_cons (by simp) (noBld_cons (by simp) (noBld_quiet quietL_nil))))) (noBld_cons (by simp) (noBld_quiet quietL_nil)))
             refine ⟨_, rfl, (hM.sub (.cons _ (.cons_cons _ (.cons _ (.cons _ (.cons_cons _ (List.nil_sublist _))))))), ?_⟩
             intro a hA
             refine any_tk hA 7 rfl rfl rfl rfl hP (hM.sub (.cons _ (.cons_cons _ (.cons _ (.cons _ (.cons_cons _ (List.nil_sublist _))))))) (fun w1 hM => does_assign rfl) ?_
             intro a hA
             refine any_end (by kernel_rfl) ?_
             refine hK49 _ _ ?_
             refine wp_seq_k (fun K82 hK82 => ?_)
             refine wp_seq_k (fun K83 hK83 => ?_)
             refine wp_region_lit ?_
             refine seq_do hA rfl rfl rfl (does_move rfl) ?_
             intro a hA
             refine seq_do hA rfl rfl rfl (does_move rfl) ?_
             intro a hA
             refine seq_do (v := .pointer (some ⟨gu, i * 3, none⟩)) hA rfl rfl rfl (does_indexX Try.underlying75 (by kernel_rfl) rfl rfl rfl hgu (show i < us.length by omega)) ?_
             intro a hA
             refine seq_do (v := .pointer (some ⟨gu, i * 3 + 1, none⟩)) hA rfl rfl rfl (does_field CpB_fld_78_1 rfl rfl) ?_
             intro a hA
             refine seq_do (v := .bool true) hA rfl rfl rfl (m_loadX hM 2 rfl hgu ((unit_bad hu hf (f := 1) (by decide)).trans rfl) CpB_is1_4 rfl) ?_
             intro a hA
             refine seq_do (v := .bool false) hA rfl rfl rfl (does_un rfl un_not) ?_
             intro a hA
             refine seq_do hA rfl rfl rfl (does_move rfl) ?_
             intro a hA
             refine seq_skip hA rfl rfl rfl ?_
             intro a hA
             refine seq_skip hA rfl rfl rfl ?_
             intro a hA
             refine seq_skip hA rfl rfl rfl ?_
             intro a hA
             refine seq_do (v := .bool false) hA rfl rfl rfl (does_pick rfl rfl rfl rfl) ?_
             intro a hA
             refine seq_end ?_
             refine hK83 _ _ ?_
             refine wp_cond_false (hA.ev rfl) ?_
             refine wp_skip ?_
             refine hK82 _ _ ?_
             refine wp_block ?_
             refine wp_seq_k (fun K84 hK84 => ?_)
             refine wp_region_lit ?_
             refine seq_do (v := .pointer (some ⟨g2, 2, none⟩)) hA rfl rfl rfl (does_field CpB_fld_23_2 rfl rfl) ?_
             intro a hA
             refine seq_do hA rfl rfl rfl (m_load1 hM CpB_is1_3 rfl 4 rfl rfl) ?_
             intro a hA
             rcases Bool.eq_false_or_eq_true ((m == 0)) with hb85 | hb85
             · have hb85' := eq_of_beq hb85
               refine seq_do (v := .bool true) hA rfl rfl rfl (does_bin rfl rfl (fun w => (bin_eql w).trans (by rw [hb85]))) ?_
               intro a hA
               refine seq_do hA rfl rfl rfl (does_assign rfl) ?_
               intro a hA
               refine seq_end ?_
               refine hK84 _ _ ?_
               refine wp_cond_true (hA.ev rfl) ?_
               refine wp_seq_k (fun K86 hK86 => ?_)
               refine wp_draw (S := fun w1 => Mg w w1 (.row 78 3 (.slice so24 us.length ca25) us.length ((unitV us)) :: [])) (by kernel_rfl) ?_
               replace hM := hM.drew
               refine any_tk hA 0 rfl rfl rfl rfl hP (hM.sub (.cons _ (.cons _ (.cons_cons _ (.cons _ (.cons _ (List.nil_sublist _))))))) (fun w1 hM => does_move rfl) ?_
               intro a hA
               refine any_tk hA 1 rfl rfl rfl rfl hP (hM.sub (.cons _ (.cons _ (.cons_cons _ (.cons _ (.cons _ (List.nil_sublist _))))))) (fun w1 hM => does_move rfl) ?_
               intro a hA
               refine any_tk (v := .pointer (some ⟨gu, i * 3, none⟩)) hA 2 rfl rfl rfl rfl hP (hM.sub (.cons _ (.cons _ (.cons_cons _ (.cons _ (.cons _ (List.nil_sublist _))))))) (fun w1 hM => does_indexX Try.underlying75 (by kernel_rfl) rfl rfl rfl hgu (show i < us.length by omega)) ?_
               intro a hA
               refine any_tk (v := .pointer (some ⟨gu, i * 3 + 2, none⟩)) hA 3 rfl rfl rfl rfl hP (hM.sub (.cons _ (.cons _ (.cons_cons _ (.cons _ (.cons _ (List.nil_sublist _))))))) (fun w1 hM => does_field CpB_fld_78_2 rfl rfl) ?_
               intro a hA
               refine any_tk (v := .int .i64 ua) hA 4 rfl rfl rfl rfl hP (hM.sub (.cons _ (.cons _ (.cons_cons _ (.cons _ (.cons _ (List.nil_sublist _))))))) (fun w1 hM => m_loadX hM 0 rfl hgu ((unit_bad hu hf (f := 2) (by decide)).trans rfl) CpB_is1_3 rfl) ?_
               intro a hA
               refine any_tk hA 5 rfl rfl rfl rfl hP (hM.sub (.cons _ (.cons _ (.cons_cons _ (.cons _ (.cons _ (List.nil_sublist _))))))) (fun w1 hM => does_assign rfl) ?_
               intro a hA
               refine any_tk hA 6 rfl rfl rfl rfl hP (hM.sub (.cons _ (.cons _ (.cons_cons _ (.cons _ (.cons _ (List.nil_sublist _))))))) (fun w1 hM => does_assign rfl) ?_
               intro a hA
               refine any_tk hA 7 rfl rfl rfl rfl hP (hM.sub (.cons _ (.cons _ (.cons_cons _ (.cons _ (.cons _ (List.nil_sublist _))))))) (fun w1 hM => does_assign rfl) ?_
               intro a hA
               refine any_end (by kernel_rfl) ?_
               refine hK86 _ _ ?_
               refine wp_ret ?_
               refine hret _ _ ?_
               refine ends (v := .tuple #[.slice none 0 0, .int .i64 ua, .int .i64 6]) hA rfl (.cons (res_tmp rfl) (.cons (res_tmp rfl) (.cons (res_tmp rfl) .nil))) rfl ?_
               rw [us_one (k := k) (ua := ua) (ur := ur) hten (j := j) (by omega), List.cons_append, run_bad0 (by omega) (.inl (by omega))] at hrun2
               rw [encS_go (by omega) (by omega) (hus ▸ hR), ← hrun2, if_pos (show ¬ ((6 : Int) = 0) by decide)]
               exact ⟨_, rfl, Nat.zero_le _, nil_end hM⟩
             · have hb85' := ne_of_beq_false hb85
               refine seq_do (v := .bool false) hA rfl rfl rfl (does_bin rfl rfl (fun w => (bin_eql w).trans (by rw [hb85]))) ?_
               intro a hA
               refine seq_do hA rfl rfl rfl (does_assign rfl) ?_
               intro a hA
               refine seq_end ?_
               refine hK84 _ _ ?_
               refine wp_cond_false (hA.ev rfl) ?_
               refine wp_seq_k (fun K87 hK87 => ?_)
               refine wp_region_lit ?_
               refine seq_do (v := .pointer (some ⟨g2, 2, none⟩)) hA rfl rfl rfl (does_field CpB_fld_23_2 rfl rfl) ?_
               intro a hA
               refine seq_do hA rfl rfl rfl (m_load1 hM CpB_is1_3 rfl 4 rfl rfl) ?_
               intro a hA
               rcases Bool.eq_false_or_eq_true ((m == 1)) with hb88 | hb88
               · have hb88' := eq_of_beq hb88
                 refine seq_do (v := .bool true) hA rfl rfl rfl (does_bin rfl rfl (fun w => (bin_eql w).trans (by rw [hb88]))) ?_
                 intro a hA
                 refine seq_do hA rfl rfl rfl (does_move rfl) ?_
                 intro a hA
                 refine seq_do (v := .pointer (some ⟨g2, 0, none⟩)) hA rfl rfl rfl (does_field CpB_fld_23_0 rfl rfl) ?_
                 intro a hA
                 refine seq_do hA rfl rfl rfl (m_load1 hM CpB_is1_3 rfl 4 rfl rfl) ?_
                 intro a hA
                 rcases Bool.eq_false_or_eq_true ((c == 2)) with hb89 | hb89
                 · have hb89' := eq_of_beq hb89
                   refine seq_do (v := .bool true) hA rfl rfl rfl (does_bin rfl rfl (fun w => (bin_eql w).trans (by rw [hb89]))) ?_
                   intro a hA
                   refine seq_do (v := .bool true) hA rfl rfl rfl (does_pick rfl rfl rfl rfl) ?_
                   intro a hA
                   refine seq_do hA rfl rfl rfl (does_assign rfl) ?_
                   intro a hA
                   refine seq_end ?_
                   refine hK87 _ _ ?_
                   refine wp_cond_true (hA.ev rfl) ?_
                   refine wp_region_lit ?_
                   refine seq_do hA rfl rfl rfl (does_move rfl) ?_
                   intro a hA
                   refine s_lit (vs := [.int .u8 63]) hA hM rfl rfl rfl (does_buildSlice rfl (by kernel_rfl)) rfl rfl (noBld_cons (by simp) (noBld_cons (by simp) (noBld_cons (by simp) (noBld_cons (by simp) (noBld_cons (by simp) (noBld_quiet quietL_nil)))))) ?_
                   intro g90 w91 hM a hA
                   refine s_append (k := 4) (q := acc2.length) (m := 1) (xs := (Lib.byteCells acc2)) (news := [.int .u8 63]) (L' := fun v92 => (.row BY 1 (.slice (some ⟨g90, 0, none⟩) 1 1) 1 ([.int .u8 63]) :: .row BY 1 (.slice so79 0 ca80) 0 ((Lib.byteCells [])) :: .row 21 1 (.slice (some ⟨g37, 0, none⟩) 1 1) 1 ((runeV ([0]))) :: .row 78 3 (.slice so24 us.length ca25) us.length ((unitV us)) :: .row BY 1 (v92) (acc2.length + 1) ((Lib.byteCells acc2) ++ [.int .u8 63]) :: .obj g2 (.cells #[.int .i64 c, .int .i64 k, .int .i64 m] 23) :: [])) hA rfl rfl rfl (m_append Try.underlying24 (by kernel_rfl) hM 4 rfl rfl 0 rfl rfl rfl rfl (by omega)) (fun _ => rfl) ?_
                   intro v92 w93 hM a hA
                   refine seq_do hA rfl rfl rfl (does_assign rfl) ?_
                   intro a hA
                   refine seq_end ?_
                   refine hK48 _ _ ?_
                   refine wp_region_lit ?_
                   refine seq_do hA rfl rfl rfl (does_move rfl) ?_
                   intro a hA
                   refine seq_do (v := .int .i64 (((j + 1 : Nat) : Int))) hA rfl rfl rfl (does_bin rfl rfl (ar_add ((in_i64 (by omega) (by omega)).trans (by omega)))) ?_
                   intro a hA
                   refine seq_do hA rfl rfl rfl (does_assign rfl) ?_
                   intro a hA
                   refine seq_end ?_
                   replace hM : Mg w w93 (.row 21 1 (.slice (some ⟨g37, 0, none⟩) 1 1) 1 ((runeV ([0]))) :: .row 78 3 (.slice so24 us.length ca25) us.length ((unitV us)) :: .row BY 1 (v92) ((acc2 ++ encC c (subS c)).length) ((Lib.byteCells (acc2 ++ encC c (subS c)))) :: .obj g2 (.cells #[.int .i64 c, .int .i64 k, .int .i64 m] 23) :: []) := by
                     have h9 := hM.sub (.cons _ (.cons _ (.cons_cons _ (.cons_cons _ (.cons_cons _ (.cons_cons _ (.refl _)))))))
                     rw [sub_two (by omega)]
                     rw [List.length_append, Lib.byteCells_append]
                     exact h9
                   refine hK43 _ _ _ (by omega) ⟨j + 1, acc2 ++ encC c (subS c), v92, rfl, ⟨by rw [← hrun2, us_one (k := k) (ua := ua) (ur := ur) hten (j := j) (by omega), List.cons_append]; exact (run_bad1 (by omega) (.inl (by omega))).symm, by omega, by rw [List.length_append]; have h8 := encC_le c (subS c); omega⟩, hA.keep _ ⟨rfl, rfl, rfl, rfl, rfl, rfl, rfl, rfl, rfl, rfl, rfl, rfl, rfl, rfl, rfl, rfl, rfl, rfl, rfl, rfl, rfl, rfl, rfl, rfl, rfl, rfl, rfl, rfl, rfl, rfl, rfl, rfl, rfl, rfl, rfl, rfl, trivial⟩, hM⟩
                 · have hb89' := ne_of_beq_false hb89
                   refine seq_do (v := .bool false) hA rfl rfl rfl (does_bin rfl rfl (fun w => (bin_eql w).trans (by rw [hb89]))) ?_
                   intro a hA
                   refine seq_do (v := .bool false) hA rfl rfl rfl (does_pick rfl rfl rfl rfl) ?_
                   intro a hA
                   refine seq_do hA rfl rfl rfl (does_assign rfl) ?_
                   intro a hA
                   refine seq_end ?_
                   refine hK87 _ _ ?_
                   refine wp_cond_false (hA.ev rfl) ?_
                   refine wp_seq_k (fun K94 hK94 => ?_)
                   refine wp_region_lit ?_
                   refine seq_do (v := .pointer (some ⟨g2, 2, none⟩)) hA rfl rfl rfl (does_field CpB_fld_23_2 rfl rfl) ?_
                   intro a hA
                   refine seq_do hA rfl rfl rfl (m_load1 hM CpB_is1_3 rfl 4 rfl rfl) ?_
                   intro a hA
                   refine seq_do (v := .bool true) hA rfl rfl rfl (does_bin rfl rfl (fun w => (bin_eql w).trans (by rw [show ((m == 1)) = true from hb88]))) ?_
                   intro a hA
                   refine seq_do hA rfl rfl rfl (does_assign rfl) ?_
                   intro a hA
                   refine seq_end ?_
                   refine hK94 _ _ ?_
                   refine wp_cond_true (hA.ev rfl) ?_
                   refine wp_region_lit ?_
                   refine seq_do hA rfl rfl rfl (does_move rfl) ?_
                   intro a hA
                   refine seq_do (v := .pointer (some ⟨g2, 0, none⟩)) hA rfl rfl rfl (does_field CpB_fld_23_0 rfl rfl) ?_
                   intro a hA
                   refine seq_do hA rfl rfl rfl (m_load1 hM CpB_is1_3 rfl 4 rfl rfl) ?_
                   intro a hA
                   refine seq_call hA rfl rfl rfl (enters_func rfl rfl (fun w => by kernel_rfl)) (rput_has hc9 (by unfold OkC; omega) (by unfold hasS; simp; omega)) ?_
                   rintro _ w99 ⟨v95, rfl, hM96⟩
                   obtain ⟨so97, ca98, rfl⟩ := owns_sliceE (hM96.has 0 rfl)
                   have hle8 := encC_le c 65533
                   replace hM : Mg w w99 (.row BY 1 (.slice so97 ((encC c 65533).length) ca98) ((encC c 65533).length) ((Lib.byteCells (encC c 65533))) :: .row BY 1 (.slice so79 0 ca80) 0 ((Lib.byteCells [])) :: .row 21 1 (.slice (some ⟨g37, 0, none⟩) 1 1) 1 ((runeV ([0]))) :: .row 78 3 (.slice so24 us.length ca25) us.length ((unitV us)) :: .row BY 1 (vp) acc2.length ((Lib.byteCells acc2)) :: .obj g2 (.cells #[.int .i64 c, .int .i64 k, .int .i64 m] 23) :: []) := (hM.both hM96 (noBld_cons (by simp) (noBld_cons (by simp) (noBld_cons (by simp) (noBld_cons (by simp) (noBld_cons (by simp) (noBld_quiet quietL_nil)))))) (noBld_cons (by simp) (noBld_quiet quietL_nil)))
                   refine ⟨_, rfl, ?_⟩
                   intro a hA
                   refine s_append (k := 4) (q := acc2.length) (m := (encC c 65533).length) (xs := (Lib.byteCells acc2)) (news := (Lib.byteCells (encC c 65533))) (L' := fun v100 => (.row BY 1 (.slice so97 ((encC c 65533).length) ca98) ((encC c 65533).length) ((Lib.byteCells (encC c 65533))) :: .row BY 1 (.slice so79 0 ca80) 0 ((Lib.byteCells [])) :: .row 21 1 (.slice (some ⟨g37, 0, none⟩) 1 1) 1 ((runeV ([0]))) :: .row 78 3 (.slice so24 us.length ca25) us.length ((unitV us)) :: .row BY 1 (v100) (acc2.length + (encC c 65533).length) ((Lib.byteCells acc2) ++ (Lib.byteCells (encC c 65533))) :: .obj g2 (.cells #[.int .i64 c, .int .i64 k, .int .i64 m] 23) :: [])) hA rfl rfl rfl (m_appendG Try.underlying24 (by kernel_rfl) hM 4 rfl rfl 0 rfl rfl (by first | omega | (simp only [List.length_nil]; omega))) (fun _ => rfl) ?_
                   intro v100 w101 hM a hA
                   refine seq_do hA rfl rfl rfl (does_assign rfl) ?_
                   intro a hA
                   refine seq_end ?_
                   refine hK48 _ _ ?_
                   refine wp_region_lit ?_
                   refine seq_do hA rfl rfl rfl (does_move rfl) ?_
                   intro a hA
                   refine seq_do (v := .int .i64 (((j + 1 : Nat) : Int))) hA rfl rfl rfl (does_bin rfl rfl (ar_add ((in_i64 (by omega) (by omega)).trans (by omega)))) ?_
                   intro a hA
                   refine seq_do hA rfl rfl rfl (does_assign rfl) ?_
                   intro a hA
                   refine seq_end ?_
                   replace hM : Mg w w101 (.row 21 1 (.slice (some ⟨g37, 0, none⟩) 1 1) 1 ((runeV ([0]))) :: .row 78 3 (.slice so24 us.length ca25) us.length ((unitV us)) :: .row BY 1 (v100) ((acc2 ++ encC c (subS c)).length) ((Lib.byteCells (acc2 ++ encC c (subS c)))) :: .obj g2 (.cells #[.int .i64 c, .int .i64 k, .int .i64 m] 23) :: []) := by
                     have h9 := hM.sub (.cons _ (.cons _ (.cons_cons _ (.cons_cons _ (.cons_cons _ (.cons_cons _ (.refl _)))))))
                     rw [sub_else (by omega)]
                     rw [List.length_append, Lib.byteCells_append]
                     exact h9
                   refine hK43 _ _ _ (by omega) ⟨j + 1, acc2 ++ encC c (subS c), v100, rfl, ⟨by rw [← hrun2, us_one (k := k) (ua := ua) (ur := ur) hten (j := j) (by omega), List.cons_append]; exact (run_bad1 (by omega) (.inl (by omega))).symm, by omega, by rw [List.length_append]; have h8 := encC_le c (subS c); omega⟩, hA.keep _ ⟨rfl, rfl, rfl, rfl, rfl, rfl, rfl, rfl, rfl, rfl, rfl, rfl, rfl, rfl, rfl, rfl, rfl, rfl, rfl, rfl, rfl, rfl, rfl, rfl, rfl, rfl, rfl, rfl, rfl, rfl, rfl, rfl, rfl, rfl, rfl, rfl, trivial⟩, hM⟩
               · have hb88' := ne_of_beq_false hb88
                 refine seq_do (v := .bool false) hA rfl rfl rfl (does_bin rfl rfl (fun w => (bin_eql w).trans (by rw [hb88]))) ?_
                 intro a hA
                 refine seq_do hA rfl rfl rfl (does_move rfl) ?_
                 intro a hA
                 refine seq_skip hA rfl rfl rfl ?_
                 intro a hA
                 refine seq_skip hA rfl rfl rfl ?_
                 intro a hA
                 refine seq_skip hA rfl rfl rfl ?_
                 intro a hA
                 refine seq_do (v := .bool false) hA rfl rfl rfl (does_pick rfl rfl rfl rfl) ?_
                 intro a hA
                 refine seq_do hA rfl rfl rfl (does_assign rfl) ?_
                 intro a hA
                 refine seq_end ?_
                 refine hK87 _ _ ?_
                 refine wp_cond_false (hA.ev rfl) ?_
                 refine wp_seq_k (fun K102 hK102 => ?_)
                 refine wp_region_lit ?_
                 refine seq_do (v := .pointer (some ⟨g2, 2, none⟩)) hA rfl rfl rfl (does_field CpB_fld_23_2 rfl rfl) ?_
                 intro a hA
                 refine seq_do hA rfl rfl rfl (m_load1 hM CpB_is1_3 rfl 4 rfl rfl) ?_
                 intro a hA
                 refine seq_do (v := .bool false) hA rfl rfl rfl (does_bin rfl rfl (fun w => (bin_eql w).trans (by rw [show ((m == 1)) = false from hb88]))) ?_
                 intro a hA
                 refine seq_do hA rfl rfl rfl (does_assign rfl) ?_
                 intro a hA
                 refine seq_end ?_
                 refine hK102 _ _ ?_
                 refine wp_cond_false (hA.ev rfl) ?_
                 refine wp_skip ?_
                 refine hK48 _ _ ?_
                 refine wp_region_lit ?_
                 refine seq_do hA rfl rfl rfl (does_move rfl) ?_
                 intro a hA
                 refine seq_do (v := .int .i64 (((j + 1 : Nat) : Int))) hA rfl rfl rfl (does_bin rfl rfl (ar_add ((in_i64 (by omega) (by omega)).trans (by omega)))) ?_
                 intro a hA
                 refine seq_do hA rfl rfl rfl (does_assign rfl) ?_
                 intro a hA
                 refine seq_end ?_
                 replace hM : Mg w w81 (.row 21 1 (.slice (some ⟨g37, 0, none⟩) 1 1) 1 ((runeV ([0]))) :: .row 78 3 (.slice so24 us.length ca25) us.length ((unitV us)) :: .row BY 1 (vp) acc2.length ((Lib.byteCells acc2)) :: .obj g2 (.cells #[.int .i64 c, .int .i64 k, .int .i64 m] 23) :: []) := by
                   have h9 := hM.sub (.cons _ (.cons_cons _ (.cons_cons _ (.cons_cons _ (.cons_cons _ (.refl _))))))
                   exact h9
                 refine hK43 _ _ _ (by omega) ⟨j + 1, acc2, vp, rfl, ⟨by rw [← hrun2, us_one (k := k) (ua := ua) (ur := ur) hten (j := j) (by omega), List.cons_append]; exact (run_bad2 (by omega) (by omega) (.inl (by omega))).symm, by omega, by omega⟩, hA.keep _ ⟨rfl, rfl, rfl, rfl, rfl, rfl, rfl, rfl, rfl, rfl, rfl, rfl, rfl, rfl, rfl, rfl, rfl, rfl, rfl, rfl, rfl, rfl, rfl, rfl, rfl, rfl, rfl, rfl, rfl, rfl, rfl, rfl, rfl, rfl, rfl, rfl, trivial⟩, hM⟩
         · have hb47' := of_decide_eq_false hb47
           refine seq_do (v := .bool false) hA rfl rfl rfl (does_bin rfl rfl (fun w => (bin_lss w).trans (by rw [hb47]))) ?_
           intro a hA
           refine seq_end ?_
           refine hK46 _ _ ?_
           refine wp_cond_false (hA.ev rfl) ?_
           refine wp_exit ?_
           refine hK35 _ _ ?_
           refine wp_region_lit ?_
           refine seq_do hA rfl rfl rfl (does_move rfl) ?_
           intro a hA
           refine seq_do (v := .int .i64 (((i + 1 : Nat) : Int))) hA rfl rfl rfl (does_bin rfl rfl (ar_add ((in_i64 (by omega) (by omega)).trans (by omega)))) ?_
           intro a hA
           refine seq_do hA rfl rfl rfl (does_assign rfl) ?_
           intro a hA
           refine seq_end ?_
           replace hM : Mg w w42 (.row 78 3 (.slice so24 us.length ca25) us.length ((unitV us)) :: .row BY 1 (vp) acc2.length ((Lib.byteCells acc2)) :: .obj g2 (.cells #[.int .i64 c, .int .i64 k, .int .i64 m] 23) :: []) := by
             have h9 := hM.sub (.cons _ (.cons_cons _ (.cons_cons _ (.cons_cons _ (.refl _)))))
             exact h9
           refine hK30 _ _ _ (by omega) ⟨i + 1, acc2, vp, rfl, ⟨by rw [← hrun2, us_one_over (k := k) (ua := ua) (ur := ur) hten (j := j) (by omega), List.nil_append], by omega, by omega⟩, hA.keep _ ⟨rfl, rfl, rfl, rfl, rfl, rfl, rfl, rfl, rfl, rfl, rfl, rfl, rfl, rfl, rfl, rfl, trivial⟩, hM⟩
       · refine seq_do (v := .int .i32 ur) hA rfl rfl rfl (m_loadX hM 0 rfl hgu ((unit_good hu hf (f := 0) (by decide)).trans rfl) CpB_is1_21 rfl) ?_
         intro a hA
         refine s_litE (e := 21) (sz := 1) (m := 1) (vs := [.int .i32 ur]) hA hM rfl rfl rfl (does_buildSlice rfl (by kernel_rfl)) rfl rfl (.inl (by decide)) ?_
         intro g103 w104 hM a hA
         refine seq_do hA rfl rfl rfl (does_assign rfl) ?_
         intro a hA
         refine seq_end ?_
         refine hK36 _ _ ?_
         refine wp_seq_k (fun K105 hK105 => ?_)
         refine wp_seq_k (fun K106 hK106 => ?_)
         refine wp_region_lit ?_
         refine seq_do hA rfl rfl rfl (does_move rfl) ?_
         intro a hA
         refine seq_do hA rfl rfl rfl (does_move rfl) ?_
         intro a hA
         refine seq_do (v := .pointer (some ⟨gu, i * 3, none⟩)) hA rfl rfl rfl (does_indexX Try.underlying75 (by kernel_rfl) rfl rfl rfl hgu (show i < us.length by omega)) ?_
         intro a hA
         refine seq_do (v := .pointer (some ⟨gu, i * 3 + 1, none⟩)) hA rfl rfl rfl (does_field CpB_fld_78_1 rfl rfl) ?_
         intro a hA
         refine seq_do (v := .bool false) hA rfl rfl rfl (m_loadX hM 1 rfl hgu ((unit_good hu hf (f := 1) (by decide)).trans rfl) CpB_is1_4 rfl) ?_
         intro a hA
         refine seq_do (v := .bool true) hA rfl rfl rfl (does_un rfl un_not) ?_
         intro a hA
         refine seq_do hA rfl rfl rfl (does_move rfl) ?_
         intro a hA
         refine seq_do hA rfl rfl rfl (does_move rfl) ?_
         intro a hA
         refine seq_do hA rfl rfl rfl (does_move rfl) ?_
         intro a hA
         refine seq_do (v := .pointer (some ⟨gu, i * 3, none⟩)) hA rfl rfl rfl (does_indexX Try.underlying75 (by kernel_rfl) rfl rfl rfl hgu (show i < us.length by omega)) ?_
         intro a hA
         refine seq_do (v := .pointer (some ⟨gu, i * 3 + 0, none⟩)) hA rfl rfl rfl (does_field CpB_fld_78_0 rfl rfl) ?_
         intro a hA
         refine seq_do (v := .int .i32 ur) hA rfl rfl rfl (m_loadX hM 1 rfl hgu ((unit_good hu hf (f := 0) (by decide)).trans rfl) CpB_is1_21 rfl) ?_
         intro a hA
         rcases Bool.eq_false_or_eq_true ((ur == 10)) with hb107 | hb107
         · have hb107' := eq_of_beq hb107
           refine seq_do (v := .bool true) hA rfl rfl rfl (does_bin rfl rfl (fun w => (bin_eql w).trans (by rw [hb107]))) ?_
           intro a hA
           refine seq_do (v := .bool true) hA rfl rfl rfl (does_pick rfl rfl rfl rfl) ?_
           intro a hA
           refine seq_end ?_
           refine hK106 _ _ ?_
           refine wp_cond_true (hA.ev rfl) ?_
           refine wp_region_lit ?_
           refine seq_do (v := .pointer (some ⟨g2, 1, none⟩)) hA rfl rfl rfl (does_field CpB_fld_23_1 rfl rfl) ?_
           intro a hA
           refine seq_do hA rfl rfl rfl (m_load1 hM CpB_is1_3 rfl 3 rfl rfl) ?_
           intro a hA
           refine seq_call hA rfl rfl rfl (enters_func rfl rfl (fun w => by kernel_rfl)) (reols_any) ?_
           rintro _ w112 ⟨v108, rfl, hM109⟩
           obtain ⟨so110, ca111, rfl⟩ := owns_sliceE (hM109.has 0 rfl)
           replace hM : Mg w w112 (.row 21 1 (.slice so110 ((eolsS k).length) ca111) ((eolsS k).length) ((runeV (eolsS k))) :: .row 21 1 (.slice (some ⟨g103, 0, none⟩) 1 1) 1 ([.int .i32 ur]) :: .row 78 3 (.slice so24 us.length ca25) us.length ((unitV us)) :: .row BY 1 (vo) acc.length ((Lib.byteCells acc)) :: .obj g2 (.cells #[.int .i64 c, .int .i64 k, .int .i64 m] 23) :: []) := (hM.both hM109 (noBld_cons (by simp) (noBld_cons (by simp) (noBld_cons (by simp) (noBld_cons (by simp) (noBld_quiet quietL_nil))))) (noBld_cons (by simp) (noBld_quiet quietL_nil)))
           refine ⟨_, rfl, ?_⟩
           intro a hA
           refine seq_do hA rfl rfl rfl (does_assign rfl) ?_
           intro a hA
           refine seq_end ?_
           refine hK105 _ _ ?_
           refine wp_seq_k (fun K113 hK113 => ?_)
           refine wp_region_lit ?_
           refine seq_do hA rfl rfl rfl (does_assign rfl) ?_
           intro a hA
           refine seq_end ?_
           refine hK113 _ _ ?_
           refine wp_block ?_
           replace hM : Mg w w112 (.row 21 1 (.slice so110 ((eolsS k).length) ca111) ((eolsS k).length) ((runeV (eolsS k))) :: .row 78 3 (.slice so24 us.length ca25) us.length ((unitV us)) :: .row BY 1 (vo) acc.length ((Lib.byteCells acc)) :: .obj g2 (.cells #[.int .i64 c, .int .i64 k, .int .i64 m] 23) :: []) := by
             have h9 := hM.sub (.cons_cons _ (.cons _ (.cons_cons _ (.cons_cons _ (.cons_cons _ (.refl _))))))
             exact h9
           have hten : ur = 10 := by omega
           have hel := eols_len k
           have hexp := expand_us k (ua, ur) (us.drop (i + 1))
           refine wp_loop_n (fun m_ a w1 => ∃ (j : Nat) (acc2 : List UInt8) (vp : Value), m_ = 8 - j ∧ (runV (cstep (putC c) m (subS c)) (acc2, 0, 0) ((usU k (ua, ur)).drop j ++ expand (eolsS k) (us.drop (i + 1))) = R ∧ j ≤ (eolsS k).length ∧ acc2.length ≤ 8 * i + 4 * j) ∧ Sl a 110 [(0, .agg #[.int .i64 c, .int .i64 k, .int .i64 m]), (1, .string s), (2, .pointer (some ⟨g2, 0, none⟩)), (7, vp), (8, .slice so24 us.length ca25), (9, .int .i64 (((i : Nat) : Int))), (10, .slice so110 ((eolsS k).length) ca111), (11, .int .i64 (((j : Nat) : Int))), (13, .agg #[.int .i64 c, .int .i64 k, .int .i64 m]), (14, .int .i64 (checkS c k m)), (15, .bool false), (16, .string s), (17, .int .i64 (((s.size : Nat) : Int))), (18, .bool false), (19, .slice (some ⟨g15, 0, none⟩) 0 0), (20, .string s), (21, .slice so18 s.data.toList.length ca19), (22, .slice so24 us.length ca25), (23, .int .i64 (((i : Nat) : Int))), (24, .slice so24 us.length ca25), (25, .int .i64 (((us.length : Nat) : Int))), (26, .bool true), (29, .slice so24 us.length ca25), (30, .int .i64 (((i : Nat) : Int))), (31, .pointer (some ⟨gu, i * 3, none⟩)), (32, .pointer (some ⟨gu, i * 3 + 0, none⟩)), (33, .int .i32 ur), (34, .slice (some ⟨g103, 0, none⟩) 1 1), (35, .slice so24 us.length ca25), (36, .int .i64 (((i : Nat) : Int))), (37, .pointer (some ⟨gu, i * 3, none⟩)), (38, .pointer (some ⟨gu, i * 3 + 1, none⟩)), (39, .bool false), (40, .bool true), (41, .bool true), (42, .slice so24 us.length ca25), (43, .int .i64 (((i : Nat) : Int))), (44, .pointer (some ⟨gu, i * 3, none⟩)), (45, .pointer (some ⟨gu, i * 3 + 0, none⟩)), (46, .int .i32 ur), (47, .bool true), (48, .bool true), (49, .pointer (some ⟨g2, 1, none⟩)), (50, .int .i64 k), (51, .slice so110 ((eolsS k).length) ca111)] ∧ Mg w w1 (.row 21 1 (.slice so110 ((eolsS k).length) ca111) ((eolsS k).length) ((runeV (eolsS k))) :: .row 78 3 (.slice so24 us.length ca25) us.length ((unitV us)) :: .row BY 1 (vp) acc2.length ((Lib.byteCells acc2)) :: .obj g2 (.cells #[.int .i64 c, .int .i64 k, .int .i64 m] 23) :: [])) _ ⟨0, acc, vo, rfl, ⟨by rw [List.drop_zero, ← hexp, ← drop_unit hu]; exact hrun, Nat.zero_le _, by omega⟩, hA.keep _ ⟨rfl, rfl, rfl, rfl, rfl, rfl, rfl, rfl, rfl, rfl, rfl, rfl, rfl, rfl, rfl, rfl, rfl, rfl, rfl, rfl, rfl, rfl, rfl, rfl, rfl, rfl, rfl, rfl, rfl, rfl, rfl, rfl, rfl, rfl, rfl, rfl, rfl, rfl, rfl, rfl, rfl, rfl, rfl, rfl, rfl, trivial⟩, hM⟩ ?_
           clear hM hA
           rintro m_ a w114 ⟨j, acc2, vp, rfl, hinv116, hA, hM⟩ K115 hK115
           obtain ⟨hrun2, hj9, hacc2⟩ := hinv116
           refine wp_seq_k (fun K117 hK117 => ?_)
           refine wp_seq_k (fun K118 hK118 => ?_)
           refine wp_region_lit ?_
           refine seq_do hA rfl rfl rfl (does_move rfl) ?_
           intro a hA
           refine seq_do hA rfl rfl rfl (does_move rfl) ?_
           intro a hA
           refine seq_do (v := .int .i64 ((((eolsS k).length : Nat) : Int))) hA rfl rfl rfl (does_len Try.underlying74 rfl) ?_
           intro a hA
           rcases Bool.eq_false_or_eq_true (decide (((j : Nat) : Int) < (((eolsS k).length : Nat) : Int))) with hb119 | hb119
           · have hb119' := of_decide_eq_true hb119
             refine seq_do (v := .bool true) hA rfl rfl rfl (does_bin rfl rfl (fun w => (bin_lss w).trans (by rw [hb119]))) ?_
             intro a hA
             refine seq_end ?_
             refine hK118 _ _ ?_
             refine wp_cond_true (hA.ev rfl) ?_
             refine wp_skip ?_
             refine hK117 _ _ ?_
             refine wp_seq_k (fun K120 hK120 => ?_)
             refine wp_block ?_
             refine wp_seq_k (fun K121 hK121 => ?_)
             refine wp_draw (S := fun w1 => Mg w w1 (.row 21 1 (.slice so110 ((eolsS k).length) ca111) ((eolsS k).length) ((runeV (eolsS k))) :: .obj g2 (.cells #[.int .i64 c, .int .i64 k, .int .i64 m] 23) :: [])) (by kernel_rfl) ?_
             replace hM := hM.drew
             refine any_tk (v := .pointer (some ⟨g2, 0, none⟩)) hA 0 rfl rfl rfl rfl hP (hM.sub (.cons_cons _ (.cons _ (.cons _ (.cons_cons _ (List.nil_sublist _)))))) (fun w1 hM => does_field CpB_fld_23_0 rfl rfl) ?_
             intro a hA
             refine any_tk hA 1 rfl rfl rfl rfl hP (hM.sub (.cons_cons _ (.cons _ (.cons _ (.cons_cons _ (List.nil_sublist _)))))) (fun w1 hM => m_load1 hM CpB_is1_3 rfl 1 rfl rfl) ?_
             intro a hA
             refine any_tk hA 2 rfl rfl rfl rfl hP (hM.sub (.cons_cons _ (.cons _ (.cons _ (.cons_cons _ (List.nil_sublist _)))))) (fun w1 hM => does_move rfl) ?_
             intro a hA
             refine any_tk hA 3 rfl rfl rfl rfl hP (hM.sub (.cons_cons _ (.cons _ (.cons _ (.cons_cons _ (List.nil_sublist _)))))) (fun w1 hM => does_move rfl) ?_
             intro a hA
             obtain ⟨gl, hgl⟩ := row_addr hM 0 rfl (show 0 < (eolsS k).length by omega)
             refine any_tk (v := .pointer (some ⟨gl, j * 1, none⟩)) hA 4 rfl rfl rfl rfl hP (hM.sub (.cons_cons _ (.cons _ (.cons _ (.cons_cons _ (List.nil_sublist _)))))) (fun w1 hM => does_indexX Try.underlying74 (by kernel_rfl) rfl rfl rfl hgl (show j < (eolsS k).length by omega)) ?_
             intro a hA
             refine any_tk (v := .int .i32 ((eolsS k).getD j 0)) hA 5 rfl rfl rfl rfl hP (hM.sub (.cons_cons _ (.cons _ (.cons _ (.cons_cons _ (List.nil_sublist _)))))) (fun w1 hM => m_loadX hM 0 rfl hgl (rune_at (ls := eolsS k) (by first | omega | (simp only [List.length_cons, List.length_nil]; omega))) CpB_is1_21 rfl) ?_
             intro a hA
             have hok9 : OkC ((eolsS k).getD j 0) := (eols_ok k j (by omega)).1
             rcases Bool.eq_false_or_eq_true (hasS c ((eolsS k).getD j 0)) with hb122 | hb122
             · refine any_one (by kernel_rfl) (op_call hA 6 rfl rfl rfl rfl (enters_func rfl rfl (fun w => by kernel_rfl)) (rput_has hc9 hok9 hb122) ?_)
               rintro _ w127 ⟨v123, rfl, hM124⟩
               obtain ⟨so125, ca126, rfl⟩ := owns_sliceE (hM124.has 0 rfl)
               have hpos9 := encC_pos (c := c) hok9
               have hle9 := encC_le c ((eolsS k).getD j 0)
               replace hM : Mg w w127 (.row BY 1 (.slice so125 ((encC c ((eolsS k).getD j 0)).length) ca126) ((encC c ((eolsS k).getD j 0)).length) ((Lib.byteCells (encC c ((eolsS k).getD j 0)))) :: .row 21 1 (.slice so110 ((eolsS k).length) ca111) ((eolsS k).length) ((runeV (eolsS k))) :: .row 78 3 (.slice so24 us.length ca25) us.length ((unitV us)) :: .row BY 1 (vp) acc2.length ((Lib.byteCells acc2)) :: .obj g2 (.cells #[.int .i64 c, .int .i64 k, .int .i64 m] 23) :: []) := (hM.both hM124 (noBld_cons (by simp) (noBld_cons (by simp) (noBld_cons (by simp) (noBld_cons (by simp) (noBld_quiet quietL_nil))))) (noBld_cons (by simp) (noBld_quiet quietL_nil)))
               refine ⟨_, rfl, (hM.sub (.cons _ (.cons_cons _ (.cons _ (.cons _ (.cons_cons _ (List.nil_sublist _))))))), ?_⟩
               intro a hA
               refine any_tk hA 7 rfl rfl rfl rfl hP (hM.sub (.cons _ (.cons_cons _ (.cons _ (.cons _ (.cons_cons _ (List.nil_sublist _))))))) (fun w1 hM => does_assign rfl) ?_
               intro a hA
               refine any_end (by kernel_rfl) ?_
               refine hK121 _ _ ?_
               refine wp_seq_k (fun K128 hK128 => ?_)
               refine wp_seq_k (fun K129 hK129 => ?_)
               refine wp_region_lit ?_
               refine seq_do hA rfl rfl rfl (does_move rfl) ?_
               intro a hA
               refine seq_do hA rfl rfl rfl (does_move rfl) ?_
               intro a hA
               refine seq_do (v := .pointer (some ⟨gu, i * 3, none⟩)) hA rfl rfl rfl (does_indexX Try.underlying75 (by kernel_rfl) rfl rfl rfl hgu (show i < us.length by omega)) ?_
               intro a hA
               refine seq_do (v := .pointer (some ⟨gu, i * 3 + 1, none⟩)) hA rfl rfl rfl (does_field CpB_fld_78_1 rfl rfl) ?_
               intro a hA
               refine seq_do (v := .bool false) hA rfl rfl rfl (m_loadX hM 2 rfl hgu ((unit_good hu hf (f := 1) (by decide)).trans rfl) CpB_is1_4 rfl) ?_
               intro a hA
               refine seq_do (v := .bool true) hA rfl rfl rfl (does_un rfl un_not) ?_
               intro a hA
               refine seq_do hA rfl rfl rfl (does_move rfl) ?_
               intro a hA
               refine seq_do hA rfl rfl rfl (does_move rfl) ?_
               intro a hA
               refine seq_do (v := .int .i64 ((((encC c ((eolsS k).getD j 0)).length : Nat) : Int))) hA rfl rfl rfl (does_len Try.underlying24 rfl) ?_
               intro a hA
               refine seq_do (v := .bool true) hA rfl rfl rfl (does_bin rfl rfl (fun w => (bin_gtr w).trans (by rw [show (decide (0 < (((encC c ((eolsS k).getD j 0)).length : Nat) : Int))) = true from decide_eq_true (by omega)]))) ?_
               intro a hA
               refine seq_do (v := .bool true) hA rfl rfl rfl (does_pick rfl rfl rfl rfl) ?_
               intro a hA
               refine seq_end ?_
               refine hK129 _ _ ?_
               refine wp_cond_true (hA.ev rfl) ?_
               refine wp_seq_k (fun K130 hK130 => ?_)
               refine wp_region_lit ?_
               refine seq_do hA rfl rfl rfl (does_move rfl) ?_
               intro a hA
               refine seq_do hA rfl rfl rfl (does_move rfl) ?_
               intro a hA
               refine s_append (k := 3) (q := acc2.length) (m := (encC c ((eolsS k).getD j 0)).length) (xs := (Lib.byteCells acc2)) (news := (Lib.byteCells (encC c ((eolsS k).getD j 0)))) (L' := fun v131 => (.row BY 1 (.slice so125 ((encC c ((eolsS k).getD j 0)).length) ca126) ((encC c ((eolsS k).getD j 0)).length) ((Lib.byteCells (encC c ((eolsS k).getD j 0)))) :: .row 21 1 (.slice so110 ((eolsS k).length) ca111) ((eolsS k).length) ((runeV (eolsS k))) :: .row 78 3 (.slice so24 us.length ca25) us.length ((unitV us)) :: .row BY 1 (v131) (acc2.length + (encC c ((eolsS k).getD j 0)).length) ((Lib.byteCells acc2) ++ (Lib.byteCells (encC c ((eolsS k).getD j 0)))) :: .obj g2 (.cells #[.int .i64 c, .int .i64 k, .int .i64 m] 23) :: [])) hA rfl rfl rfl (m_appendG Try.underlying24 (by kernel_rfl) hM 3 rfl rfl 0 rfl rfl (by first | omega | (simp only [List.length_nil]; omega))) (fun _ => rfl) ?_
               intro v131 w132 hM a hA
               refine seq_do hA rfl rfl rfl (does_assign rfl) ?_
               intro a hA
               refine seq_end ?_
               refine hK130 _ _ ?_
               refine wp_exit ?_
               refine hK120 _ _ ?_
               refine wp_region_lit ?_
               refine seq_do hA rfl rfl rfl (does_move rfl) ?_
               intro a hA
               refine seq_do (v := .int .i64 (((j + 1 : Nat) : Int))) hA rfl rfl rfl (does_bin rfl rfl (ar_add ((in_i64 (by omega) (by omega)).trans (by omega)))) ?_
               intro a hA
               refine seq_do hA rfl rfl rfl (does_assign rfl) ?_
               intro a hA
               refine seq_end ?_
               replace hM : Mg w w132 (.row 21 1 (.slice so110 ((eolsS k).length) ca111) ((eolsS k).length) ((runeV (eolsS k))) :: .row 78 3 (.slice so24 us.length ca25) us.length ((unitV us)) :: .row BY 1 (v131) ((acc2 ++ encC c ((eolsS k).getD j 0)).length) ((Lib.byteCells (acc2 ++ encC c ((eolsS k).getD j 0)))) :: .obj g2 (.cells #[.int .i64 c, .int .i64 k, .int .i64 m] 23) :: []) := by
                 have h9 := hM.sub (.cons _ (.cons_cons _ (.cons_cons _ (.cons_cons _ (.cons_cons _ (.refl _))))))
                 rw [List.length_append, Lib.byteCells_append]
                 exact h9
               refine hK115 _ _ _ (by omega) ⟨j + 1, acc2 ++ encC c ((eolsS k).getD j 0), v131, rfl, ⟨by rw [← hrun2, us_ten (k := k) (ua := ua) hten (j := j) (by omega), List.cons_append]; exact (run_put (eols_ok k j (by omega)).2 hb122).symm, by omega, by rw [List.length_append]; have h8 := encC_le c ((eolsS k).getD j 0); omega⟩, hA.keep _ ⟨rfl, rfl, rfl, rfl, rfl, rfl, rfl, rfl, rfl, rfl, rfl, rfl, rfl, rfl, rfl, rfl, rfl, rfl, rfl, rfl, rfl, rfl, rfl, rfl, rfl, rfl, rfl, rfl, rfl, rfl, rfl, rfl, rfl, rfl, rfl, rfl, rfl, rfl, rfl, rfl, rfl, rfl, rfl, rfl, rfl, trivial⟩, hM⟩
             · refine any_one (by kernel_rfl) (op_call hA 6 rfl rfl rfl rfl (enters_func rfl rfl (fun w => by kernel_rfl)) (rput_not hc9 hok9 hb122) ?_)
               rintro _ w137 ⟨v133, rfl, hM134⟩
               obtain ⟨so135, ca136, rfl⟩ := owns_sliceE (hM134.has 0 rfl)
               replace hM : Mg w w137 (.row BY 1 (.slice so135 0 ca136) 0 ((Lib.byteCells [])) :: .row 21 1 (.slice so110 ((eolsS k).length) ca111) ((eolsS k).length) ((runeV (eolsS k))) :: .row 78 3 (.slice so24 us.length ca25) us.length ((unitV us)) :: .row BY 1 (vp) acc2.length ((Lib.byteCells acc2)) :: .obj g2 (.cells #[.int .i64 c, .int .i64 k, .int .i64 m] 23) :: []) := (hM.both hM134 (noBld_cons (by simp) (noBld_cons (by simp) (noBld_cons (by simp) (noBld_cons (by simp) (noBld_quiet quietL_nil))))) (noBld_cons (by simp) (noBld_quiet quietL_nil)))
               refine ⟨_, rfl, (hM.sub (.cons _ (.cons_cons _ (.cons _ (.cons _ (.cons_cons _ (List.nil_sublist _))))))), ?_⟩
               intro a hA
               refine any_tk hA 7 rfl rfl rfl rfl hP (hM.sub (.cons _ (.cons_cons _ (.cons _ (.cons _ (.cons_cons _ (List.nil_sublist _))))))) (fun w1 hM => does_assign rfl) ?_
               intro a hA
               refine any_end (by kernel_rfl) ?_
               refine hK121 _ _ ?_
               refine wp_seq_k (fun K138 hK138 => ?_)
               refine wp_seq_k (fun K139 hK139 => ?_)
               refine wp_region_lit ?_
               refine seq_do hA rfl rfl rfl (does_move rfl) ?_
               intro a hA
               refine seq_do hA rfl rfl rfl (does_move rfl) ?_
               intro a hA
               refine seq_do (v := .pointer (some ⟨gu, i * 3, none⟩)) hA rfl rfl rfl (does_indexX Try.underlying75 (by kernel_rfl) rfl rfl rfl hgu (show i < us.length by omega)) ?_
               intro a hA
               refine seq_do (v := .pointer (some ⟨gu, i * 3 + 1, none⟩)) hA rfl rfl rfl (does_field CpB_fld_78_1 rfl rfl) ?_
               intro a hA
               refine seq_do (v := .bool false) hA rfl rfl rfl (m_loadX hM 2 rfl hgu ((unit_good hu hf (f := 1) (by decide)).trans rfl) CpB_is1_4 rfl) ?_
               intro a hA
               refine seq_do (v := .bool true) hA rfl rfl rfl (does_un rfl un_not) ?_
               intro a hA
               refine seq_do hA rfl rfl rfl (does_move rfl) ?_
               intro a hA
               refine seq_do hA rfl rfl rfl (does_move rfl) ?_
               intro a hA
               refine seq_do (v := .int .i64 0) hA rfl rfl rfl (does_len Try.underlying24 rfl) ?_
               intro a hA
               refine seq_do (v := .bool false) hA rfl rfl rfl (does_bin rfl rfl (fun w => by kernel_rfl)) ?_
               intro a hA
               refine seq_do (v := .bool false) hA rfl rfl rfl (does_pick rfl rfl rfl rfl) ?_
               intro a hA
               refine seq_end ?_
               refine hK139 _ _ ?_
               refine wp_cond_false (hA.ev rfl) ?_
               refine wp_skip ?_
               refine hK138 _ _ ?_
               refine wp_block ?_
               refine wp_seq_k (fun K140 hK140 => ?_)
               refine wp_region_lit ?_
               refine seq_do (v := .pointer (some ⟨g2, 2, none⟩)) hA rfl rfl rfl (does_field CpB_fld_23_2 rfl rfl) ?_
               intro a hA
               refine seq_do hA rfl rfl rfl (m_load1 hM CpB_is1_3 rfl 4 rfl rfl) ?_
               intro a hA
               rcases Bool.eq_false_or_eq_true ((m == 0)) with hb141 | hb141
               · have hb141' := eq_of_beq hb141
                 refine seq_do (v := .bool true) hA rfl rfl rfl (does_bin rfl rfl (fun w => (bin_eql w).trans (by rw [hb141]))) ?_
                 intro a hA
                 refine seq_do hA rfl rfl rfl (does_assign rfl) ?_
                 intro a hA
                 refine seq_end ?_
                 refine hK140 _ _ ?_
                 refine wp_cond_true (hA.ev rfl) ?_
                 refine wp_seq_k (fun K142 hK142 => ?_)
                 refine wp_draw (S := fun w1 => Mg w w1 (.row 78 3 (.slice so24 us.length ca25) us.length ((unitV us)) :: [])) (by kernel_rfl) ?_
                 replace hM := hM.drew
                 refine any_tk hA 0 rfl rfl rfl rfl hP (hM.sub (.cons _ (.cons _ (.cons_cons _ (.cons _ (.cons _ (List.nil_sublist _))))))) (fun w1 hM => does_move rfl) ?_
                 intro a hA
                 refine any_tk hA 1 rfl rfl rfl rfl hP (hM.sub (.cons _ (.cons _ (.cons_cons _ (.cons _ (.cons _ (List.nil_sublist _))))))) (fun w1 hM => does_move rfl) ?_
                 intro a hA
                 refine any_tk (v := .pointer (some ⟨gu, i * 3, none⟩)) hA 2 rfl rfl rfl rfl hP (hM.sub (.cons _ (.cons _ (.cons_cons _ (.cons _ (.cons _ (List.nil_sublist _))))))) (fun w1 hM => does_indexX Try.underlying75 (by kernel_rfl) rfl rfl rfl hgu (show i < us.length by omega)) ?_
                 intro a hA
                 refine any_tk (v := .pointer (some ⟨gu, i * 3 + 2, none⟩)) hA 3 rfl rfl rfl rfl hP (hM.sub (.cons _ (.cons _ (.cons_cons _ (.cons _ (.cons _ (List.nil_sublist _))))))) (fun w1 hM => does_field CpB_fld_78_2 rfl rfl) ?_
                 intro a hA
                 refine any_tk (v := .int .i64 ua) hA 4 rfl rfl rfl rfl hP (hM.sub (.cons _ (.cons _ (.cons_cons _ (.cons _ (.cons _ (List.nil_sublist _))))))) (fun w1 hM => m_loadX hM 0 rfl hgu ((unit_good hu hf (f := 2) (by decide)).trans rfl) CpB_is1_3 rfl) ?_
                 intro a hA
                 refine any_tk hA 5 rfl rfl rfl rfl hP (hM.sub (.cons _ (.cons _ (.cons_cons _ (.cons _ (.cons _ (List.nil_sublist _))))))) (fun w1 hM => does_assign rfl) ?_
                 intro a hA
                 refine any_tk hA 6 rfl rfl rfl rfl hP (hM.sub (.cons _ (.cons _ (.cons_cons _ (.cons _ (.cons _ (List.nil_sublist _))))))) (fun w1 hM => does_assign rfl) ?_
                 intro a hA
                 refine any_tk hA 7 rfl rfl rfl rfl hP (hM.sub (.cons _ (.cons _ (.cons_cons _ (.cons _ (.cons _ (List.nil_sublist _))))))) (fun w1 hM => does_assign rfl) ?_
                 intro a hA
                 refine any_end (by kernel_rfl) ?_
                 refine hK142 _ _ ?_
                 refine wp_ret ?_
                 refine hret _ _ ?_
                 refine ends (v := .tuple #[.slice none 0 0, .int .i64 ua, .int .i64 6]) hA rfl (.cons (res_tmp rfl) (.cons (res_tmp rfl) (.cons (res_tmp rfl) .nil))) rfl ?_
                 rw [us_ten (k := k) (ua := ua) hten (j := j) (by omega), List.cons_append, run_bad0 (by omega) (.inr hb122)] at hrun2
                 rw [encS_go (by omega) (by omega) (hus ▸ hR), ← hrun2, if_pos (show ¬ ((6 : Int) = 0) by decide)]
                 exact ⟨_, rfl, Nat.zero_le _, nil_end hM⟩
               · have hb141' := ne_of_beq_false hb141
                 refine seq_do (v := .bool false) hA rfl rfl rfl (does_bin rfl rfl (fun w => (bin_eql w).trans (by rw [hb141]))) ?_
                 intro a hA
                 refine seq_do hA rfl rfl rfl (does_assign rfl) ?_
                 intro a hA
                 refine seq_end ?_
                 refine hK140 _ _ ?_
                 refine wp_cond_false (hA.ev rfl) ?_
                 refine wp_seq_k (fun K143 hK143 => ?_)
                 refine wp_region_lit ?_
                 refine seq_do (v := .pointer (some ⟨g2, 2, none⟩)) hA rfl rfl rfl (does_field CpB_fld_23_2 rfl rfl) ?_
                 intro a hA
                 refine seq_do hA rfl rfl rfl (m_load1 hM CpB_is1_3 rfl 4 rfl rfl) ?_
                 intro a hA
                 rcases Bool.eq_false_or_eq_true ((m == 1)) with hb144 | hb144
                 · have hb144' := eq_of_beq hb144
                   refine seq_do (v := .bool true) hA rfl rfl rfl (does_bin rfl rfl (fun w => (bin_eql w).trans (by rw [hb144]))) ?_
                   intro a hA
                   refine seq_do hA rfl rfl rfl (does_move rfl) ?_
                   intro a hA
                   refine seq_do (v := .pointer (some ⟨g2, 0, none⟩)) hA rfl rfl rfl (does_field CpB_fld_23_0 rfl rfl) ?_
                   intro a hA
                   refine seq_do hA rfl rfl rfl (m_load1 hM CpB_is1_3 rfl 4 rfl rfl) ?_
                   intro a hA
                   rcases Bool.eq_false_or_eq_true ((c == 2)) with hb145 | hb145
                   · have hb145' := eq_of_beq hb145
                     refine seq_do (v := .bool true) hA rfl rfl rfl (does_bin rfl rfl (fun w => (bin_eql w).trans (by rw [hb145]))) ?_
                     intro a hA
                     refine seq_do (v := .bool true) hA rfl rfl rfl (does_pick rfl rfl rfl rfl) ?_
                     intro a hA
                     refine seq_do hA rfl rfl rfl (does_assign rfl) ?_
                     intro a hA
                     refine seq_end ?_
                     refine hK143 _ _ ?_
                     refine wp_cond_true (hA.ev rfl) ?_
                     refine wp_region_lit ?_
                     refine seq_do hA rfl rfl rfl (does_move rfl) ?_
                     intro a hA
                     refine s_lit (vs := [.int .u8 63]) hA hM rfl rfl rfl (does_buildSlice rfl (by kernel_rfl)) rfl rfl (noBld_cons (by simp) (noBld_cons (by simp) (noBld_cons (by simp) (noBld_cons (by simp) (noBld_cons (by simp) (noBld_quiet quietL_nil)))))) ?_
                     intro g146 w147 hM a hA
                     refine s_append (k := 4) (q := acc2.length) (m := 1) (xs := (Lib.byteCells acc2)) (news := [.int .u8 63]) (L' := fun v148 => (.row BY 1 (.slice (some ⟨g146, 0, none⟩) 1 1) 1 ([.int .u8 63]) :: .row BY 1 (.slice so135 0 ca136) 0 ((Lib.byteCells [])) :: .row 21 1 (.slice so110 ((eolsS k).length) ca111) ((eolsS k).length) ((runeV (eolsS k))) :: .row 78 3 (.slice so24 us.length ca25) us.length ((unitV us)) :: .row BY 1 (v148) (acc2.length + 1) ((Lib.byteCells acc2) ++ [.int .u8 63]) :: .obj g2 (.cells #[.int .i64 c, .int .i64 k, .int .i64 m] 23) :: [])) hA rfl rfl rfl (m_append Try.underlying24 (by kernel_rfl) hM 4 rfl rfl 0 rfl rfl rfl rfl (by omega)) (fun _ => rfl) ?_
                     intro v148 w149 hM a hA
                     refine seq_do hA rfl rfl rfl (does_assign rfl) ?_
                     intro a hA
                     refine seq_end ?_
                     refine hK120 _ _ ?_
                     refine wp_region_lit ?_
                     refine seq_do hA rfl rfl rfl (does_move rfl) ?_
                     intro a hA
                     refine seq_do (v := .int .i64 (((j + 1 : Nat) : Int))) hA rfl rfl rfl (does_bin rfl rfl (ar_add ((in_i64 (by omega) (by omega)).trans (by omega)))) ?_
                     intro a hA
                     refine seq_do hA rfl rfl rfl (does_assign rfl) ?_
                     intro a hA
                     refine seq_end ?_
                     replace hM : Mg w w149 (.row 21 1 (.slice so110 ((eolsS k).length) ca111) ((eolsS k).length) ((runeV (eolsS k))) :: .row 78 3 (.slice so24 us.length ca25) us.length ((unitV us)) :: .row BY 1 (v148) ((acc2 ++ encC c (subS c)).length) ((Lib.byteCells (acc2 ++ encC c (subS c)))) :: .obj g2 (.cells #[.int .i64 c, .int .i64 k, .int .i64 m] 23) :: []) := by
                       have h9 := hM.sub (.cons _ (.cons _ (.cons_cons _ (.cons_cons _ (.cons_cons _ (.cons_cons _ (.refl _)))))))
                       rw [sub_two (by omega)]
                       rw [List.length_append, Lib.byteCells_append]
                       exact h9
                     refine hK115 _ _ _ (by omega) ⟨j + 1, acc2 ++ encC c (subS c), v148, rfl, ⟨by rw [← hrun2, us_ten (k := k) (ua := ua) hten (j := j) (by omega), List.cons_append]; exact (run_bad1 (by omega) (.inr hb122)).symm, by omega, by rw [List.length_append]; have h8 := encC_le c (subS c); omega⟩, hA.keep _ ⟨rfl, rfl, rfl, rfl, rfl, rfl, rfl, rfl, rfl, rfl, rfl, rfl, rfl, rfl, rfl, rfl, rfl, rfl, rfl, rfl, rfl, rfl, rfl, rfl, rfl, rfl, rfl, rfl, rfl, rfl, rfl, rfl, rfl, rfl, rfl, rfl, rfl, rfl, rfl, rfl, rfl, rfl, rfl, rfl, rfl, trivial⟩, hM⟩
                   · have hb145' := ne_of_beq_false hb145
                     refine seq_do (v := .bool false) hA rfl rfl rfl (does_bin rfl rfl (fun w => (bin_eql w).trans (by rw [hb145]))) ?_
                     intro a hA
                     refine seq_do (v := .bool false) hA rfl rfl rfl (does_pick rfl rfl rfl rfl) ?_
                     intro a hA
                     refine seq_do hA rfl rfl rfl (does_assign rfl) ?_
                     intro a hA
                     refine seq_end ?_
                     refine hK143 _ _ ?_
                     refine wp_cond_false (hA.ev rfl) ?_
                     refine wp_seq_k (fun K150 hK150 => ?_)
                     refine wp_region_lit ?_
                     refine seq_do (v := .pointer (some ⟨g2, 2, none⟩)) hA rfl rfl rfl (does_field CpB_fld_23_2 rfl rfl) ?_
                     intro a hA
                     refine seq_do hA rfl rfl rfl (m_load1 hM CpB_is1_3 rfl 4 rfl rfl) ?_
                     intro a hA
                     refine seq_do (v := .bool true) hA rfl rfl rfl (does_bin rfl rfl (fun w => (bin_eql w).trans (by rw [show ((m == 1)) = true from hb144]))) ?_
                     intro a hA
                     refine seq_do hA rfl rfl rfl (does_assign rfl) ?_
                     intro a hA
                     refine seq_end ?_
                     refine hK150 _ _ ?_
                     refine wp_cond_true (hA.ev rfl) ?_
                     refine wp_region_lit ?_
                     refine seq_do hA rfl rfl rfl (does_move rfl) ?_
                     intro a hA
                     refine seq_do (v := .pointer (some ⟨g2, 0, none⟩)) hA rfl rfl rfl (does_field CpB_fld_23_0 rfl rfl) ?_
                     intro a hA
                     refine seq_do hA rfl rfl rfl (m_load1 hM CpB_is1_3 rfl 4 rfl rfl) ?_
                     intro a hA
                     refine seq_call hA rfl rfl rfl (enters_func rfl rfl (fun w => by kernel_rfl)) (rput_has hc9 (by unfold OkC; omega) (by unfold hasS; simp; omega)) ?_
                     rintro _ w155 ⟨v151, rfl, hM152⟩
                     obtain ⟨so153, ca154, rfl⟩ := owns_sliceE (hM152.has 0 rfl)
                     have hle8 := encC_le c 65533
                     replace hM : Mg w w155 (.row BY 1 (.slice so153 ((encC c 65533).length) ca154) ((encC c 65533).length) ((Lib.byteCells (encC c 65533))) :: .row BY 1 (.slice so135 0 ca136) 0 ((Lib.byteCells [])) :: .row 21 1 (.slice so110 ((eolsS k).length) ca111) ((eolsS k).length) ((runeV (eolsS k))) :: .row 78 3 (.slice so24 us.length ca25) us.length ((unitV us)) :: .row BY 1 (vp) acc2.length ((Lib.byteCells acc2)) :: .obj g2 (.cells #[.int .i64 c, .int .i64 k, .int .i64 m] 23) :: []) := (hM.both hM152 (noBld_cons (by simp) (noBld_cons (by simp) (noBld_cons (by simp) (noBld_cons (by simp) (noBld_cons (by simp) (noBld_quiet quietL_nil)))))) (noBld_cons (by simp) (noBld_quiet quietL_nil)))
                     refine ⟨_, rfl, ?_⟩
                     intro a hA
                     refine s_append (k := 4) (q := acc2.length) (m := (encC c 65533).length) (xs := (Lib.byteCells acc2)) (news := (Lib.byteCells (encC c 65533))) (L' := fun v156 => (.row BY 1 (.slice so153 ((encC c 65533).length) ca154) ((encC c 65533).length) ((Lib.byteCells (encC c 65533))) :: .row BY 1 (.slice so135 0 ca136) 0 ((Lib.byteCells [])) :: .row 21 1 (.slice so110 ((eolsS k).length) ca111) ((eolsS k).length) ((runeV (eolsS k))) :: .row 78 3 (.slice so24 us.length ca25) us.length ((unitV us)) :: .row BY 1 (v156) (acc2.length + (encC c 65533).length) ((Lib.byteCells acc2) ++ (Lib.byteCells (encC c 65533))) :: .obj g2 (.cells #[.int .i64 c, .int .i64 k, .int .i64 m] 23) :: [])) hA rfl rfl rfl (m_appendG Try.underlying24 (by kernel_rfl) hM 4 rfl rfl 0 rfl rfl (by first | omega | (simp only [List.length_nil]; omega))) (fun _ => rfl) ?_
                     intro v156 w157 hM a hA
                     refine seq_do hA rfl rfl rfl (does_assign rfl) ?_
                     intro a hA
                     refine seq_end ?_
                     refine hK120 _ _ ?_
                     refine wp_region_lit ?_
                     refine seq_do hA rfl rfl rfl (does_move rfl) ?_
                     intro a hA
                     refine seq_do (v := .int .i64 (((j + 1 : Nat) : Int))) hA rfl rfl rfl (does_bin rfl rfl (ar_add ((in_i64 (by omega) (by omega)).trans (by omega)))) ?_
                     intro a hA
                     refine seq_do hA rfl rfl rfl (does_assign rfl) ?_
                     intro a hA
                     refine seq_end ?_
                     replace hM : Mg w w157 (.row 21 1 (.slice so110 ((eolsS k).length) ca111) ((eolsS k).length) ((runeV (eolsS k))) :: .row 78 3 (.slice so24 us.length ca25) us.length ((unitV us)) :: .row BY 1 (v156) ((acc2 ++ encC c (subS c)).length) ((Lib.byteCells (acc2 ++ encC c (subS c)))) :: .obj g2 (.cells #[.int .i64 c, .int .i64 k, .int .i64 m] 23) :: []) := by
                       have h9 := hM.sub (.cons _ (.cons _ (.cons_cons _ (.cons_cons _ (.cons_cons _ (.cons_cons _ (.refl _)))))))
                       rw [sub_else (by omega)]
                       rw [List.length_append, Lib.byteCells_append]
                       exact h9
                     refine hK115 _ _ _ (by omega) ⟨j + 1, acc2 ++ encC c (subS c), v156, rfl, ⟨by rw [← hrun2, us_ten (k := k) (ua := ua) hten (j := j) (by omega), List.cons_append]; exact (run_bad1 (by omega) (.inr hb122)).symm, by omega, by rw [List.length_append]; have h8 := encC_le c (subS c); omega⟩, hA.keep _ ⟨rfl, rfl, rfl, rfl, rfl, rfl, rfl, rfl, rfl, rfl, rfl, rfl, rfl, rfl, rfl, rfl, rfl, rfl, rfl, rfl, rfl, rfl, rfl, rfl, rfl, rfl, rfl, rfl, rfl, rfl, rfl, rfl, rfl, rfl, rfl, rfl, rfl, rfl, rfl, rfl, rfl, rfl, rfl, rfl, rfl, trivial⟩, hM⟩
                 · have hb144' := ne_of_beq_false hb144
                   refine seq_do (v := .bool false) hA rfl rfl rfl (does_bin rfl rfl (fun w => (bin_eql w).trans (by rw [hb144]))) ?_
                   intro a hA
                   refine seq_do hA rfl rfl rfl (does_move rfl) ?_
                   intro a hA
                   refine seq_skip hA rfl rfl rfl ?_
                   intro a hA
                   refine seq_skip hA rfl rfl rfl ?_
                   intro a hA
                   refine seq_skip hA rfl rfl rfl ?_
                   intro a hA
                   refine seq_do (v := .bool false) hA rfl rfl rfl (does_pick rfl rfl rfl rfl) ?_
                   intro a hA
                   refine seq_do hA rfl rfl rfl (does_assign rfl) ?_
                   intro a hA
                   refine seq_end ?_
                   refine hK143 _ _ ?_
                   refine wp_cond_false (hA.ev rfl) ?_
                   refine wp_seq_k (fun K158 hK158 => ?_)
                   refine wp_region_lit ?_
                   refine seq_do (v := .pointer (some ⟨g2, 2, none⟩)) hA rfl rfl rfl (does_field CpB_fld_23_2 rfl rfl) ?_
                   intro a hA
                   refine seq_do hA rfl rfl rfl (m_load1 hM CpB_is1_3 rfl 4 rfl rfl) ?_
                   intro a hA
                   refine seq_do (v := .bool false) hA rfl rfl rfl (does_bin rfl rfl (fun w => (bin_eql w).trans (by rw [show ((m == 1)) = false from hb144]))) ?_
                   intro a hA
                   refine seq_do hA rfl rfl rfl (does_assign rfl) ?_
                   intro a hA
                   refine seq_end ?_
                   refine hK158 _ _ ?_
                   refine wp_cond_false (hA.ev rfl) ?_
                   refine wp_skip ?_
                   refine hK120 _ _ ?_
                   refine wp_region_lit ?_
                   refine seq_do hA rfl rfl rfl (does_move rfl) ?_
                   intro a hA
                   refine seq_do (v := .int .i64 (((j + 1 : Nat) : Int))) hA rfl rfl rfl (does_bin rfl rfl (ar_add ((in_i64 (by omega) (by omega)).trans (by omega)))) ?_
                   intro a hA
                   refine seq_do hA rfl rfl rfl (does_assign rfl) ?_
                   intro a hA
                   refine seq_end ?_
                   replace hM : Mg w w137 (.row 21 1 (.slice so110 ((eolsS k).length) ca111) ((eolsS k).length) ((runeV (eolsS k))) :: .row 78 3 (.slice so24 us.length ca25) us.length ((unitV us)) :: .row BY 1 (vp) acc2.length ((Lib.byteCells acc2)) :: .obj g2 (.cells #[.int .i64 c, .int .i64 k, .int .i64 m] 23) :: []) := by
                     have h9 := hM.sub (.cons _ (.cons_cons _ (.cons_cons _ (.cons_cons _ (.cons_cons _ (.refl _))))))
                     exact h9
                   refine hK115 _ _ _ (by omega) ⟨j + 1, acc2, vp, rfl, ⟨by rw [← hrun2, us_ten (k := k) (ua := ua) hten (j := j) (by omega), List.cons_append]; exact (run_bad2 (by omega) (by omega) (.inr hb122)).symm, by omega, by omega⟩, hA.keep _ ⟨rfl, rfl, rfl, rfl, rfl, rfl, rfl, rfl, rfl, rfl, rfl, rfl, rfl, rfl, rfl, rfl, rfl, rfl, rfl, rfl, rfl, rfl, rfl, rfl, rfl, rfl, rfl, rfl, rfl, rfl, rfl, rfl, rfl, rfl, rfl, rfl, rfl, rfl, rfl, rfl, rfl, rfl, rfl, rfl, rfl, trivial⟩, hM⟩
           · have hb119' := of_decide_eq_false hb119
             refine seq_do (v := .bool false) hA rfl rfl rfl (does_bin rfl rfl (fun w => (bin_lss w).trans (by rw [hb119]))) ?_
             intro a hA
             refine seq_end ?_
             refine hK118 _ _ ?_
             refine wp_cond_false (hA.ev rfl) ?_
             refine wp_exit ?_
             refine hK35 _ _ ?_
             refine wp_region_lit ?_
             refine seq_do hA rfl rfl rfl (does_move rfl) ?_
             intro a hA
             refine seq_do (v := .int .i64 (((i + 1 : Nat) : Int))) hA rfl rfl rfl (does_bin rfl rfl (ar_add ((in_i64 (by omega) (by omega)).trans (by omega)))) ?_
             intro a hA
             refine seq_do hA rfl rfl rfl (does_assign rfl) ?_
             intro a hA
             refine seq_end ?_
             replace hM : Mg w w114 (.row 78 3 (.slice so24 us.length ca25) us.length ((unitV us)) :: .row BY 1 (vp) acc2.length ((Lib.byteCells acc2)) :: .obj g2 (.cells #[.int .i64 c, .int .i64 k, .int .i64 m] 23) :: []) := by
               have h9 := hM.sub (.cons _ (.cons_cons _ (.cons_cons _ (.cons_cons _ (.refl _)))))
               exact h9
             refine hK30 _ _ _ (by omega) ⟨i + 1, acc2, vp, rfl, ⟨by rw [← hrun2, us_ten_over (k := k) (ua := ua) hten (j := j) (by omega), List.nil_append], by omega, by omega⟩, hA.keep _ ⟨rfl, rfl, rfl, rfl, rfl, rfl, rfl, rfl, rfl, rfl, rfl, rfl, rfl, rfl, rfl, rfl, trivial⟩, hM⟩
         · have hb107' := ne_of_beq_false hb107
           refine seq_do (v := .bool false) hA rfl rfl rfl (does_bin rfl rfl (fun w => (bin_eql w).trans (by rw [hb107]))) ?_
           intro a hA
           refine seq_do (v := .bool false) hA rfl rfl rfl (does_pick rfl rfl rfl rfl) ?_
           intro a hA
           refine seq_end ?_
           refine hK106 _ _ ?_
           refine wp_cond_false (hA.ev rfl) ?_
           refine wp_skip ?_
           refine hK105 _ _ ?_
           refine wp_seq_k (fun K159 hK159 => ?_)
           refine wp_region_lit ?_
           refine seq_do hA rfl rfl rfl (does_assign rfl) ?_
           intro a hA
           refine seq_end ?_
           refine hK159 _ _ ?_
           refine wp_block ?_
           have hten : ur ≠ 10 := by omega
           have hel := eols_len k
           have hexp := expand_us k (ua, ur) (us.drop (i + 1))
           refine wp_loop_n (fun m_ a w1 => ∃ (j : Nat) (acc2 : List UInt8) (vp : Value), m_ = 8 - j ∧ (runV (cstep (putC c) m (subS c)) (acc2, 0, 0) ((usU k (ua, ur)).drop j ++ expand (eolsS k) (us.drop (i + 1))) = R ∧ j ≤ 1 ∧ acc2.length ≤ 8 * i + 4 * j) ∧ Sl a 110 [(0, .agg #[.int .i64 c, .int .i64 k, .int .i64 m]), (1, .string s), (2, .pointer (some ⟨g2, 0, none⟩)), (7, vp), (8, .slice so24 us.length ca25), (9, .int .i64 (((i : Nat) : Int))), (10, .slice (some ⟨g103, 0, none⟩) 1 1), (11, .int .i64 (((j : Nat) : Int))), (13, .agg #[.int .i64 c, .int .i64 k, .int .i64 m]), (14, .int .i64 (checkS c k m)), (15, .bool false), (16, .string s), (17, .int .i64 (((s.size : Nat) : Int))), (18, .bool false), (19, .slice (some ⟨g15, 0, none⟩) 0 0), (20, .string s), (21, .slice so18 s.data.toList.length ca19), (22, .slice so24 us.length ca25), (23, .int .i64 (((i : Nat) : Int))), (24, .slice so24 us.length ca25), (25, .int .i64 (((us.length : Nat) : Int))), (26, .bool true), (29, .slice so24 us.length ca25), (30, .int .i64 (((i : Nat) : Int))), (31, .pointer (some ⟨gu, i * 3, none⟩)), (32, .pointer (some ⟨gu, i * 3 + 0, none⟩)), (33, .int .i32 ur), (34, .slice (some ⟨g103, 0, none⟩) 1 1), (35, .slice so24 us.length ca25), (36, .int .i64 (((i : Nat) : Int))), (37, .pointer (some ⟨gu, i * 3, none⟩)), (38, .pointer (some ⟨gu, i * 3 + 1, none⟩)), (39, .bool false), (40, .bool true), (41, .bool true), (42, .slice so24 us.length ca25), (43, .int .i64 (((i : Nat) : Int))), (44, .pointer (some ⟨gu, i * 3, none⟩)), (45, .pointer (some ⟨gu, i * 3 + 0, none⟩)), (46, .int .i32 ur), (47, .bool false), (48, .bool false)] ∧ Mg w w1 (.row 21 1 (.slice (some ⟨g103, 0, none⟩) 1 1) 1 ((runeV ([ur]))) :: .row 78 3 (.slice so24 us.length ca25) us.length ((unitV us)) :: .row BY 1 (vp) acc2.length ((Lib.byteCells acc2)) :: .obj g2 (.cells #[.int .i64 c, .int .i64 k, .int .i64 m] 23) :: [])) _ ⟨0, acc, vo, rfl, ⟨by rw [List.drop_zero, ← hexp, ← drop_unit hu]; exact hrun, Nat.zero_le _, by omega⟩, hA.keep _ ⟨rfl, rfl, rfl, rfl, rfl, rfl, rfl, rfl, rfl, rfl, rfl, rfl, rfl, rfl, rfl, rfl, rfl, rfl, rfl, rfl, rfl, rfl, rfl, rfl, rfl, rfl, rfl, rfl, rfl, rfl, rfl, rfl, rfl, rfl, rfl, rfl, rfl, rfl, rfl, rfl, rfl, rfl, trivial⟩, hM⟩ ?_
           clear hM hA
           rintro m_ a w160 ⟨j, acc2, vp, rfl, hinv162, hA, hM⟩ K161 hK161
           obtain ⟨hrun2, hj9, hacc2⟩ := hinv162
           refine wp_seq_k (fun K163 hK163 => ?_)
           refine wp_seq_k (fun K164 hK164 => ?_)
           refine wp_region_lit ?_
           refine seq_do hA rfl rfl rfl (does_move rfl) ?_
           intro a hA
           refine seq_do hA rfl rfl rfl (does_move rfl) ?_
           intro a hA
           refine seq_do (v := .int .i64 1) hA rfl rfl rfl (does_len Try.underlying74 rfl) ?_
           intro a hA
           rcases Bool.eq_false_or_eq_true (decide (((j : Nat) : Int) < 1)) with hb165 | hb165
           · have hb165' := of_decide_eq_true hb165
             refine seq_do (v := .bool true) hA rfl rfl rfl (does_bin rfl rfl (fun w => (bin_lss w).trans (by rw [hb165]))) ?_
             intro a hA
             refine seq_end ?_
             refine hK164 _ _ ?_
             refine wp_cond_true (hA.ev rfl) ?_
             refine wp_skip ?_
             refine hK163 _ _ ?_
             refine wp_seq_k (fun K166 hK166 => ?_)
             refine wp_block ?_
             refine wp_seq_k (fun K167 hK167 => ?_)
             refine wp_draw (S := fun w1 => Mg w w1 (.row 21 1 (.slice (some ⟨g103, 0, none⟩) 1 1) 1 ((runeV ([ur]))) :: .obj g2 (.cells #[.int .i64 c, .int .i64 k, .int .i64 m] 23) :: [])) (by kernel_rfl) ?_
             replace hM := hM.drew
             refine any_tk (v := .pointer (some ⟨g2, 0, none⟩)) hA 0 rfl rfl rfl rfl hP (hM.sub (.cons_cons _ (.cons _ (.cons _ (.cons_cons _ (List.nil_sublist _)))))) (fun w1 hM => does_field CpB_fld_23_0 rfl rfl) ?_
             intro a hA
             refine any_tk hA 1 rfl rfl rfl rfl hP (hM.sub (.cons_cons _ (.cons _ (.cons _ (.cons_cons _ (List.nil_sublist _)))))) (fun w1 hM => m_load1 hM CpB_is1_3 rfl 1 rfl rfl) ?_
             intro a hA
             refine any_tk hA 2 rfl rfl rfl rfl hP (hM.sub (.cons_cons _ (.cons _ (.cons _ (.cons_cons _ (List.nil_sublist _)))))) (fun w1 hM => does_move rfl) ?_
             intro a hA
             refine any_tk hA 3 rfl rfl rfl rfl hP (hM.sub (.cons_cons _ (.cons _ (.cons _ (.cons_cons _ (List.nil_sublist _)))))) (fun w1 hM => does_move rfl) ?_
             intro a hA
             refine any_tk (v := .pointer (some ⟨g103, j * 1, none⟩)) hA 4 rfl rfl rfl rfl hP (hM.sub (.cons_cons _ (.cons _ (.cons _ (.cons_cons _ (List.nil_sublist _)))))) (fun w1 hM => does_indexX Try.underlying74 (by kernel_rfl) rfl rfl rfl rfl (show j < 1 by omega)) ?_
             intro a hA
             refine any_tk (v := .int .i32 (([ur]).getD j 0)) hA 5 rfl rfl rfl rfl hP (hM.sub (.cons_cons _ (.cons _ (.cons _ (.cons_cons _ (List.nil_sublist _)))))) (fun w1 hM => m_loadX hM 0 rfl rfl (rune_at (ls := [ur]) (by first | omega | (simp only [List.length_cons, List.length_nil]; omega))) CpB_is1_21 rfl) ?_
             intro a hA
             have hok9 : OkC (([ur]).getD j 0) := by rw [show j = 0 from by omega]; exact ok_unit hok hu hf
             rcases Bool.eq_false_or_eq_true (hasS c (([ur]).getD j 0)) with hb168 | hb168
             · refine any_one (by kernel_rfl) (op_call hA 6 rfl rfl rfl rfl (enters_func rfl rfl (fun w => by kernel_rfl)) (rput_has hc9 hok9 hb168) ?_)
               rintro _ w173 ⟨v169, rfl, hM170⟩
               obtain ⟨so171, ca172, rfl⟩ := owns_sliceE (hM170.has 0 rfl)
               have hpos9 := encC_pos (c := c) hok9
               have hle9 := encC_le c (([ur]).getD j 0)
               replace hM : Mg w w173 (.row BY 1 (.slice so171 ((encC c (([ur]).getD j 0)).length) ca172) ((encC c (([ur]).getD j 0)).length) ((Lib.byteCells (encC c (([ur]).getD j 0)))) :: .row 21 1 (.slice (some ⟨g103, 0, none⟩) 1 1) 1 ((runeV ([ur]))) :: .row 78 3 (.slice so24 us.length ca25) us.length ((unitV us)) :: .row BY 1 (vp) acc2.length ((Lib.byteCells acc2)) :: .obj g2 (.cells #[.int .i64 c, .int .i64 k, .int .i64 m] 23) :: []) := (hM.both hM170 (noBld_cons (by simp) (noBld_cons (by simp) (noBld_cons (by simp) (noBld_cons (by simp) (noBld_quiet quietL_nil))))) (noBld_cons (by simp) (noBld_quiet quietL_nil)))
               refine ⟨_, rfl, (hM.sub (.cons _ (.cons_cons _ (.cons _ (.cons _ (.cons_cons _ (List.nil_sublist _))))))), ?_⟩
               intro a hA
               refine any_tk hA 7 rfl rfl rfl rfl hP (hM.sub (.cons _ (.cons_cons _ (.cons _ (.cons _ (.cons_cons _ (List.nil_sublist _))))))) (fun w1 hM => does_assign rfl) ?_
               intro a hA
               refine any_end (by kernel_rfl) ?_
               refine hK167 _ _ ?_
               refine wp_seq_k (fun K174 hK174 => ?_)
               refine wp_seq_k (fun K175 hK175 => ?_)
               refine wp_region_lit ?_
               refine seq_do hA rfl rfl rfl (does_move rfl) ?_
               intro a hA
               refine seq_do hA rfl rfl rfl (does_move rfl) ?_
               intro a hA
               refine seq_do (v := .pointer (some ⟨gu, i * 3, none⟩)) hA rfl rfl rfl (does_indexX Try.underlying75 (by kernel_rfl) rfl rfl rfl hgu (show i < us.length by omega)) ?_
               intro a hA
               refine seq_do (v := .pointer (some ⟨gu, i * 3 + 1, none⟩)) hA rfl rfl rfl (does_field CpB_fld_78_1 rfl rfl) ?_
               intro a hA
               refine seq_do (v := .bool false) hA rfl rfl rfl (m_loadX hM 2 rfl hgu ((unit_good hu hf (f := 1) (by decide)).trans rfl) CpB_is1_4 rfl) ?_
               intro a hA
               refine seq_do (v := .bool true) hA rfl rfl rfl (does_un rfl un_not) ?_
               intro a hA
               refine seq_do hA rfl rfl rfl (does_move rfl) ?_
               intro a hA
               refine seq_do hA rfl rfl rfl (does_move rfl) ?_
               intro a hA
               refine seq_do (v := .int .i64 ((((encC c (([ur]).getD j 0)).length : Nat) : Int))) hA rfl rfl rfl (does_len Try.underlying24 rfl) ?_
               intro a hA
               refine seq_do (v := .bool true) hA rfl rfl rfl (does_bin rfl rfl (fun w => (bin_gtr w).trans (by rw [show (decide (0 < (((encC c (([ur]).getD j 0)).length : Nat) : Int))) = true from decide_eq_true (by omega)]))) ?_
               intro a hA
               refine seq_do (v := .bool true) hA rfl rfl rfl (does_pick rfl rfl rfl rfl) ?_
               intro a hA
               refine seq_end ?_
               refine hK175 _ _ ?_
               refine wp_cond_true (hA.ev rfl) ?_
               refine wp_seq_k (fun K176 hK176 => ?_)
               refine wp_region_lit ?_
               refine seq_do hA rfl rfl rfl (does_move rfl) ?_
               intro a hA
               refine seq_do hA rfl rfl rfl (does_move rfl) ?_
               intro a hA
               refine s_append (k := 3) (q := acc2.length) (m := (encC c (([ur]).getD j 0)).length) (xs := (Lib.byteCells acc2)) (news := (Lib.byteCells (encC c (([ur]).getD j 0)))) (L' := fun v177 => (.row BY 1 (.slice so171 ((encC c (([ur]).getD j 0)).length) ca172) ((encC c (([ur]).getD j 0)).length) ((Lib.byteCells (encC c (([ur]).getD j 0)))) :: .row 21 1 (.slice (some ⟨g103, 0, none⟩) 1 1) 1 ((runeV ([ur]))) :: .row 78 3 (.slice so24 us.length ca25) us.length ((unitV us)) :: .row BY 1 (v177) (acc2.length + (encC c (([ur]).getD j 0)).length) ((Lib.byteCells acc2) ++ (Lib.byteCells (encC c (([ur]).getD j 0)))) :: .obj g2 (.cells #[.int .i64 c, .int .i64 k, .int .i64 m] 23) :: [])) hA rfl rfl rfl (m_appendG Try.underlying24 (by kernel_rfl) hM 3 rfl rfl 0 rfl rfl (by first | omega | (simp only [List.length_nil]; omega))) (fun _ => rfl) ?_
               intro v177 w178 hM a hA
               refine seq_do hA rfl rfl rfl (does_assign rfl) ?_
               intro a hA
               refine seq_end ?_
               refine hK176 _ _ ?_
               refine wp_exit ?_
               refine hK166 _ _ ?_
               refine wp_region_lit ?_
               refine seq_do hA rfl rfl rfl (does_move rfl) ?_
               intro a hA
               refine seq_do (v := .int .i64 (((j + 1 : Nat) : Int))) hA rfl rfl rfl (does_bin rfl rfl (ar_add ((in_i64 (by omega) (by omega)).trans (by omega)))) ?_
               intro a hA
               refine seq_do hA rfl rfl rfl (does_assign rfl) ?_
               intro a hA
               refine seq_end ?_
               have hx9 : ([ur] : List Int).getD j 0 = ur := by rw [show j = 0 from by omega]; rfl
               replace hM : Mg w w178 (.row 21 1 (.slice (some ⟨g103, 0, none⟩) 1 1) 1 ((runeV ([ur]))) :: .row 78 3 (.slice so24 us.length ca25) us.length ((unitV us)) :: .row BY 1 (v177) ((acc2 ++ encC c (([ur]).getD j 0)).length) ((Lib.byteCells (acc2 ++ encC c (([ur]).getD j 0)))) :: .obj g2 (.cells #[.int .i64 c, .int .i64 k, .int .i64 m] 23) :: []) := by
                 have h9 := hM.sub (.cons _ (.cons_cons _ (.cons_cons _ (.cons_cons _ (.cons_cons _ (.refl _))))))
                 rw [List.length_append, Lib.byteCells_append]
                 exact h9
               refine hK161 _ _ _ (by omega) ⟨j + 1, acc2 ++ encC c (([ur]).getD j 0), v177, rfl, ⟨by rw [← hrun2, us_oneL (k := k) (ua := ua) (ur := ur) hten (j := j) (by omega), List.cons_append]; exact (run_put (by rw [hx9]; exact hf) hb168).symm, by omega, by rw [List.length_append]; have h8 := encC_le c (([ur]).getD j 0); omega⟩, hA.keep _ ⟨rfl, rfl, rfl, rfl, rfl, rfl, rfl, rfl, rfl, rfl, rfl, rfl, rfl, rfl, rfl, rfl, rfl, rfl, rfl, rfl, rfl, rfl, rfl, rfl, rfl, rfl, rfl, rfl, rfl, rfl, rfl, rfl, rfl, rfl, rfl, rfl, rfl, rfl, rfl, rfl, rfl, rfl, trivial⟩, hM⟩
             · refine any_one (by kernel_rfl) (op_call hA 6 rfl rfl rfl rfl (enters_func rfl rfl (fun w => by kernel_rfl)) (rput_not hc9 hok9 hb168) ?_)
               rintro _ w183 ⟨v179, rfl, hM180⟩
               obtain ⟨so181, ca182, rfl⟩ := owns_sliceE (hM180.has 0 rfl)
               replace hM : Mg w w183 (.row BY 1 (.slice so181 0 ca182) 0 ((Lib.byteCells [])) :: .row 21 1 (.slice (some ⟨g103, 0, none⟩) 1 1) 1 ((runeV ([ur]))) :: .row 78 3 (.slice so24 us.length ca25) us.length ((unitV us)) :: .row BY 1 (vp) acc2.length ((Lib.byteCells acc2)) :: .obj g2 (.cells #[.int .i64 c, .int .i64 k, .int .i64 m] 23) :: []) := (hM.both hM180 (noBld_cons (by simp) (noBld_cons (by simp) (noBld_cons (by simp) (noBld_cons (by simp) (noBld_quiet quietL_nil))))) (noBld_cons (by simp) (noBld_quiet quietL_nil)))
               refine ⟨_, rfl, (hM.sub (.cons _ (.cons_cons _ (.cons _ (.cons _ (.cons_cons _ (List.nil_sublist _))))))), ?_⟩
               intro a hA
               refine any_tk hA 7 rfl rfl rfl rfl hP (hM.sub (.cons _ (.cons_cons _ (.cons _ (.cons _ (.cons_cons _ (List.nil_sublist _))))))) (fun w1 hM => does_assign rfl) ?_
               intro a hA
               refine any_end (by kernel_rfl) ?_
               refine hK167 _ _ ?_
               refine wp_seq_k (fun K184 hK184 => ?_)
               refine wp_seq_k (fun K185 hK185 => ?_)
               refine wp_region_lit ?_
               refine seq_do hA rfl rfl rfl (does_move rfl) ?_
               intro a hA
               refine seq_do hA rfl rfl rfl (does_move rfl) ?_
               intro a hA
               refine seq_do (v := .pointer (some ⟨gu, i * 3, none⟩)) hA rfl rfl rfl (does_indexX Try.underlying75 (by kernel_rfl) rfl rfl rfl hgu (show i < us.length by omega)) ?_
               intro a hA
               refine seq_do (v := .pointer (some ⟨gu, i * 3 + 1, none⟩)) hA rfl rfl rfl (does_field CpB_fld_78_1 rfl rfl) ?_
               intro a hA
               refine seq_do (v := .bool false) hA rfl rfl rfl (m_loadX hM 2 rfl hgu ((unit_good hu hf (f := 1) (by decide)).trans rfl) CpB_is1_4 rfl) ?_
               intro a hA
               refine seq_do (v := .bool true) hA rfl rfl rfl (does_un rfl un_not) ?_
               intro a hA
               refine seq_do hA rfl rfl rfl (does_move rfl) ?_
               intro a hA
               refine seq_do hA rfl rfl rfl (does_move rfl) ?_
               intro a hA
               refine seq_do (v := .int .i64 0) hA rfl rfl rfl (does_len Try.underlying24 rfl) ?_
               intro a hA
               refine seq_do (v := .bool false) hA rfl rfl rfl (does_bin rfl rfl (fun w => by kernel_rfl)) ?_
               intro a hA
               refine seq_do (v := .bool false) hA rfl rfl rfl (does_pick rfl rfl rfl rfl) ?_
               intro a hA
               refine seq_end ?_
               refine hK185 _ _ ?_
               refine wp_cond_false (hA.ev rfl) ?_
               refine wp_skip ?_
               refine hK184 _ _ ?_
               refine wp_block ?_
               refine wp_seq_k (fun K186 hK186 => ?_)
               refine wp_region_lit ?_
               refine seq_do (v := .pointer (some ⟨g2, 2, none⟩)) hA rfl rfl rfl (does_field CpB_fld_23_2 rfl rfl) ?_
               intro a hA
               refine seq_do hA rfl rfl rfl (m_load1 hM CpB_is1_3 rfl 4 rfl rfl) ?_
               intro a hA
               rcases Bool.eq_false_or_eq_true ((m == 0)) with hb187 | hb187
               · have hb187' := eq_of_beq hb187
                 refine seq_do (v := .bool true) hA rfl rfl rfl (does_bin rfl rfl (fun w => (bin_eql w).trans (by rw [hb187]))) ?_
                 intro a hA
                 refine seq_do hA rfl rfl rfl (does_assign rfl) ?_
                 intro a hA
                 refine seq_end ?_
                 refine hK186 _ _ ?_
                 refine wp_cond_true (hA.ev rfl) ?_
                 refine wp_seq_k (fun K188 hK188 => ?_)
                 refine wp_draw (S := fun w1 => Mg w w1 (.row 78 3 (.slice so24 us.length ca25) us.length ((unitV us)) :: [])) (by kernel_rfl) ?_
                 replace hM := hM.drew
                 refine any_tk hA 0 rfl rfl rfl rfl hP (hM.sub (.cons _ (.cons _ (.cons_cons _ (.cons _ (.cons _ (List.nil_sublist _))))))) (fun w1 hM => does_move rfl) ?_
                 intro a hA
                 refine any_tk hA 1 rfl rfl rfl rfl hP (hM.sub (.cons _ (.cons _ (.cons_cons _ (.cons _ (.cons _ (List.nil_sublist _))))))) (fun w1 hM => does_move rfl) ?_
                 intro a hA
                 refine any_tk (v := .pointer (some ⟨gu, i * 3, none⟩)) hA 2 rfl rfl rfl rfl hP (hM.sub (.cons _ (.cons _ (.cons_cons _ (.cons _ (.cons _ (List.nil_sublist _))))))) (fun w1 hM => does_indexX Try.underlying75 (by kernel_rfl) rfl rfl rfl hgu (show i < us.length by omega)) ?_
                 intro a hA
                 refine any_tk (v := .pointer (some ⟨gu, i * 3 + 2, none⟩)) hA 3 rfl rfl rfl rfl hP (hM.sub (.cons _ (.cons _ (.cons_cons _ (.cons _ (.cons _ (List.nil_sublist _))))))) (fun w1 hM => does_field CpB_fld_78_2 rfl rfl) ?_
                 intro a hA
                 refine any_tk (v := .int .i64 ua) hA 4 rfl rfl rfl rfl hP (hM.sub (.cons _ (.cons _ (.cons_cons _ (.cons _ (.cons _ (List.nil_sublist _))))))) (fun w1 hM => m_loadX hM 0 rfl hgu ((unit_good hu hf (f := 2) (by decide)).trans rfl) CpB_is1_3 rfl) ?_
                 intro a hA
                 refine any_tk hA 5 rfl rfl rfl rfl hP (hM.sub (.cons _ (.cons _ (.cons_cons _ (.cons _ (.cons _ (List.nil_sublist _))))))) (fun w1 hM => does_assign rfl) ?_
                 intro a hA
                 refine any_tk hA 6 rfl rfl rfl rfl hP (hM.sub (.cons _ (.cons _ (.cons_cons _ (.cons _ (.cons _ (List.nil_sublist _))))))) (fun w1 hM => does_assign rfl) ?_
                 intro a hA
                 refine any_tk hA 7 rfl rfl rfl rfl hP (hM.sub (.cons _ (.cons _ (.cons_cons _ (.cons _ (.cons _ (List.nil_sublist _))))))) (fun w1 hM => does_assign rfl) ?_
                 intro a hA
                 refine any_end (by kernel_rfl) ?_
                 refine hK188 _ _ ?_
                 refine wp_ret ?_
                 refine hret _ _ ?_
                 refine ends (v := .tuple #[.slice none 0 0, .int .i64 ua, .int .i64 6]) hA rfl (.cons (res_tmp rfl) (.cons (res_tmp rfl) (.cons (res_tmp rfl) .nil))) rfl ?_
                 rw [us_oneL (k := k) (ua := ua) (ur := ur) hten (j := j) (by omega), List.cons_append, run_bad0 (by omega) (.inr hb168)] at hrun2
                 rw [encS_go (by omega) (by omega) (hus ▸ hR), ← hrun2, if_pos (show ¬ ((6 : Int) = 0) by decide)]
                 exact ⟨_, rfl, Nat.zero_le _, nil_end hM⟩
               · have hb187' := ne_of_beq_false hb187
                 refine seq_do (v := .bool false) hA rfl rfl rfl (does_bin rfl rfl (fun w => (bin_eql w).trans (by rw [hb187]))) ?_
                 intro a hA
                 refine seq_do hA rfl rfl rfl (does_assign rfl) ?_
                 intro a hA
                 refine seq_end ?_
                 refine hK186 _ _ ?_
                 refine wp_cond_false (hA.ev rfl) ?_
                 refine wp_seq_k (fun K189 hK189 => ?_)
                 refine wp_region_lit ?_
                 refine seq_do (v := .pointer (some ⟨g2, 2, none⟩)) hA rfl rfl rfl (does_field CpB_fld_23_2 rfl rfl) ?_
                 intro a hA
                 refine seq_do hA rfl rfl rfl (m_load1 hM CpB_is1_3 rfl 4 rfl rfl) ?_
                 intro a hA
                 rcases Bool.eq_false_or_eq_true ((m == 1)) with hb190 | hb190
                 · have hb190' := eq_of_beq hb190
                   refine seq_do (v := .bool true) hA rfl rfl rfl (does_bin rfl rfl (fun w => (bin_eql w).trans (by rw [hb190]))) ?_
                   intro a hA
                   refine seq_do hA rfl rfl rfl (does_move rfl) ?_
                   intro a hA
                   refine seq_do (v := .pointer (some ⟨g2, 0, none⟩)) hA rfl rfl rfl (does_field CpB_fld_23_0 rfl rfl) ?_
                   intro a hA
                   refine seq_do hA rfl rfl rfl (m_load1 hM CpB_is1_3 rfl 4 rfl rfl) ?_
                   intro a hA
                   rcases Bool.eq_false_or_eq_true ((c == 2)) with hb191 | hb191
                   · have hb191' := eq_of_beq hb191
                     refine seq_do (v := .bool true) hA rfl rfl rfl (does_bin rfl rfl (fun w => (bin_eql w).trans (by rw [hb191]))) ?_
                     intro a hA
                     refine seq_do (v := .bool true) hA rfl rfl rfl (does_pick rfl rfl rfl rfl) ?_
                     intro a hA
                     refine seq_do hA rfl rfl rfl (does_assign rfl) ?_
                     intro a hA
                     refine seq_end ?_
                     refine hK189 _ _ ?_
                     refine wp_cond_true (hA.ev rfl) ?_
                     refine wp_region_lit ?_
                     refine seq_do hA rfl rfl rfl (does_move rfl) ?_
                     intro a hA
                     refine s_lit (vs := [.int .u8 63]) hA hM rfl rfl rfl (does_buildSlice rfl (by kernel_rfl)) rfl rfl (noBld_cons (by simp) (noBld_cons (by simp) (noBld_cons (by simp) (noBld_cons (by simp) (noBld_cons (by simp) (noBld_quiet quietL_nil)))))) ?_
                     intro g192 w193 hM a hA
                     refine s_append (k := 4) (q := acc2.length) (m := 1) (xs := (Lib.byteCells acc2)) (news := [.int .u8 63]) (L' := fun v194 => (.row BY 1 (.slice (some ⟨g192, 0, none⟩) 1 1) 1 ([.int .u8 63]) :: .row BY 1 (.slice so181 0 ca182) 0 ((Lib.byteCells [])) :: .row 21 1 (.slice (some ⟨g103, 0, none⟩) 1 1) 1 ((runeV ([ur]))) :: .row 78 3 (.slice so24 us.length ca25) us.length ((unitV us)) :: .row BY 1 (v194) (acc2.length + 1) ((Lib.byteCells acc2) ++ [.int .u8 63]) :: .obj g2 (.cells #[.int .i64 c, .int .i64 k, .int .i64 m] 23) :: [])) hA rfl rfl rfl (m_append Try.underlying24 (by kernel_rfl) hM 4 rfl rfl 0 rfl rfl rfl rfl (by omega)) (fun _ => rfl) ?_
                     intro v194 w195 hM a hA
                     refine seq_do hA rfl rfl rfl (does_assign rfl) ?_
                     intro a hA
                     refine seq_end ?_
                     refine hK166 _ _ ?_
                     refine wp_region_lit ?_
                     refine seq_do hA rfl rfl rfl (does_move rfl) ?_
                     intro a hA
                     refine seq_do (v := .int .i64 (((j + 1 : Nat) : Int))) hA rfl rfl rfl (does_bin rfl rfl (ar_add ((in_i64 (by omega) (by omega)).trans (by omega)))) ?_
                     intro a hA
                     refine seq_do hA rfl rfl rfl (does_assign rfl) ?_
                     intro a hA
                     refine seq_end ?_
                     have hx9 : ([ur] : List Int).getD j 0 = ur := by rw [show j = 0 from by omega]; rfl
                     replace hM : Mg w w195 (.row 21 1 (.slice (some ⟨g103, 0, none⟩) 1 1) 1 ((runeV ([ur]))) :: .row 78 3 (.slice so24 us.length ca25) us.length ((unitV us)) :: .row BY 1 (v194) ((acc2 ++ encC c (subS c)).length) ((Lib.byteCells (acc2 ++ encC c (subS c)))) :: .obj g2 (.cells #[.int .i64 c, .int .i64 k, .int .i64 m] 23) :: []) := by
                       have h9 := hM.sub (.cons _ (.cons _ (.cons_cons _ (.cons_cons _ (.cons_cons _ (.cons_cons _ (.refl _)))))))
                       rw [sub_two (by omega)]
                       rw [List.length_append, Lib.byteCells_append]
                       exact h9
                     refine hK161 _ _ _ (by omega) ⟨j + 1, acc2 ++ encC c (subS c), v194, rfl, ⟨by rw [← hrun2, us_oneL (k := k) (ua := ua) (ur := ur) hten (j := j) (by omega), List.cons_append]; exact (run_bad1 (by omega) (.inr hb168)).symm, by omega, by rw [List.length_append]; have h8 := encC_le c (subS c); omega⟩, hA.keep _ ⟨rfl, rfl, rfl, rfl, rfl, rfl, rfl, rfl, rfl, rfl, rfl, rfl, rfl, rfl, rfl, rfl, rfl, rfl, rfl, rfl, rfl, rfl, rfl, rfl, rfl, rfl, rfl, rfl, rfl, rfl, rfl, rfl, rfl, rfl, rfl, rfl, rfl, rfl, rfl, rfl, rfl, rfl, trivial⟩, hM⟩
                   · have hb191' := ne_of_beq_false hb191
                     refine seq_do (v := .bool false) hA rfl rfl rfl (does_bin rfl rfl (fun w => (bin_eql w).trans (by rw [hb191]))) ?_
                     intro a hA
                     refine seq_do (v := .bool false) hA rfl rfl rfl (does_pick rfl rfl rfl rfl) ?_
                     intro a hA
                     refine seq_do hA rfl rfl rfl (does_assign rfl) ?_
                     intro a hA
                     refine seq_end ?_
                     refine hK189 _ _ ?_
                     refine wp_cond_false (hA.ev rfl) ?_
                     refine wp_seq_k (fun K196 hK196 => ?_)
                     refine wp_region_lit ?_
                     refine seq_do (v := .pointer (some ⟨g2, 2, none⟩)) hA rfl rfl rfl (does_field CpB_fld_23_2 rfl rfl) ?_
                     intro a hA
                     refine seq_do hA rfl rfl rfl (m_load1 hM CpB_is1_3 rfl 4 rfl rfl) ?_
                     intro a hA
                     refine seq_do (v := .bool true) hA rfl rfl rfl (does_bin rfl rfl (fun w => (bin_eql w).trans (by rw [show ((m == 1)) = true from hb190]))) ?_
                     intro a hA
                     refine seq_do hA rfl rfl rfl (does_assign rfl) ?_
                     intro a hA
                     refine seq_end ?_
                     refine hK196 _ _ ?_
                     refine wp_cond_true (hA.ev rfl) ?_
                     refine wp_region_lit ?_
                     refine seq_do hA rfl rfl rfl (does_move rfl) ?_
                     intro a hA
                     refine seq_do (v := .pointer (some ⟨g2, 0, none⟩)) hA rfl rfl rfl (does_field CpB_fld_23_0 rfl rfl) ?_
                     intro a hA
                     refine seq_do hA rfl rfl rfl (m_load1 hM CpB_is1_3 rfl 4 rfl rfl) ?_
                     intro a hA
                     refine seq_call hA rfl rfl rfl (enters_func rfl rfl (fun w => by kernel_rfl)) (rput_has hc9 (by unfold OkC; omega) (by unfold hasS; simp; omega)) ?_
                     rintro _ w201 ⟨v197, rfl, hM198⟩
                     obtain ⟨so199, ca200, rfl⟩ := owns_sliceE (hM198.has 0 rfl)
                     have hle8 := encC_le c 65533
                     replace hM : Mg w w201 (.row BY 1 (.slice so199 ((encC c 65533).length) ca200) ((encC c 65533).length) ((Lib.byteCells (encC c 65533))) :: .row BY 1 (.slice so181 0 ca182) 0 ((Lib.byteCells [])) :: .row 21 1 (.slice (some ⟨g103, 0, none⟩) 1 1) 1 ((runeV ([ur]))) :: .row 78 3 (.slice so24 us.length ca25) us.length ((unitV us)) :: .row BY 1 (vp) acc2.length ((Lib.byteCells acc2)) :: .obj g2 (.cells #[.int .i64 c, .int .i64 k, .int .i64 m] 23) :: []) := (hM.both hM198 (noBld_cons (by simp) (noBld_cons (by simp) (noBld_cons (by simp) (noBld_cons (by simp) (noBld_cons (by simp) (noBld_quiet quietL_nil)))))) (noBld_cons (by simp) (noBld_quiet quietL_nil)))
                     refine ⟨_, rfl, ?_⟩
                     intro a hA
                     refine s_append (k := 4) (q := acc2.length) (m := (encC c 65533).length) (xs := (Lib.byteCells acc2)) (news := (Lib.byteCells (encC c 65533))) (L' := fun v202 => (.row BY 1 (.slice so199 ((encC c 65533).length) ca200) ((encC c 65533).length) ((Lib.byteCells (encC c 65533))) :: .row BY 1 (.slice so181 0 ca182) 0 ((Lib.byteCells [])) :: .row 21 1 (.slice (some ⟨g103, 0, none⟩) 1 1) 1 ((runeV ([ur]))) :: .row 78 3 (.slice so24 us.length ca25) us.length ((unitV us)) :: .row BY 1 (v202) (acc2.length + (encC c 65533).length) ((Lib.byteCells acc2) ++ (Lib.byteCells (encC c 65533))) :: .obj g2 (.cells #[.int .i64 c, .int .i64 k, .int .i64 m] 23) :: [])) hA rfl rfl rfl (m_appendG Try.underlying24 (by kernel_rfl) hM 4 rfl rfl 0 rfl rfl (by first | omega | (simp only [List.length_nil]; omega))) (fun _ => rfl) ?_
                     intro v202 w203 hM a hA
                     refine seq_do hA rfl rfl rfl (does_assign rfl) ?_
                     intro a hA
                     refine seq_end ?_
                     refine hK166 _ _ ?_
                     refine wp_region_lit ?_
                     refine seq_do hA rfl rfl rfl (does_move rfl) ?_
                     intro a hA
                     refine seq_do (v := .int .i64 (((j + 1 : Nat) : Int))) hA rfl rfl rfl (does_bin rfl rfl (ar_add ((in_i64 (by omega) (by omega)).trans (by omega)))) ?_
                     intro a hA
                     refine seq_do hA rfl rfl rfl (does_assign rfl) ?_
                     intro a hA
                     refine seq_end ?_
                     have hx9 : ([ur] : List Int).getD j 0 = ur := by rw [show j = 0 from by omega]; rfl
                     replace hM : Mg w w203 (.row 21 1 (.slice (some ⟨g103, 0, none⟩) 1 1) 1 ((runeV ([ur]))) :: .row 78 3 (.slice so24 us.length ca25) us.length ((unitV us)) :: .row BY 1 (v202) ((acc2 ++ encC c (subS c)).length) ((Lib.byteCells (acc2 ++ encC c (subS c)))) :: .obj g2 (.cells #[.int .i64 c, .int .i64 k, .int .i64 m] 23) :: []) := by
                       have h9 := hM.sub (.cons _ (.cons _ (.cons_cons _ (.cons_cons _ (.cons_cons _ (.cons_cons _ (.refl _)))))))
                       rw [sub_else (by omega)]
                       rw [List.length_append, Lib.byteCells_append]
                       exact h9
                     refine hK161 _ _ _ (by omega) ⟨j + 1, acc2 ++ encC c (subS c), v202, rfl, ⟨by rw [← hrun2, us_oneL (k := k) (ua := ua) (ur := ur) hten (j := j) (by omega), List.cons_append]; exact (run_bad1 (by omega) (.inr hb168)).symm, by omega, by rw [List.length_append]; have h8 := encC_le c (subS c); omega⟩, hA.keep _ ⟨rfl, rfl, rfl, rfl, rfl, rfl, rfl, rfl, rfl, rfl, rfl, rfl, rfl, rfl, rfl, rfl, rfl, rfl, rfl, rfl, rfl, rfl, rfl, rfl, rfl, rfl, rfl, rfl, rfl, rfl, rfl, rfl, rfl, rfl, rfl, rfl, rfl, rfl, rfl, rfl, rfl, rfl, trivial⟩, hM⟩
                 · have hb190' := ne_of_beq_false hb190
                   refine seq_do (v := .bool false) hA rfl rfl rfl (does_bin rfl rfl (fun w => (bin_eql w).trans (by rw [hb190]))) ?_
                   intro a hA
                   refine seq_do hA rfl rfl rfl (does_move rfl) ?_
                   intro a hA
                   refine seq_skip hA rfl rfl rfl ?_
                   intro a hA
                   refine seq_skip hA rfl rfl rfl ?_
                   intro a hA
                   refine seq_skip hA rfl rfl rfl ?_
                   intro a hA
                   refine seq_do (v := .bool false) hA rfl rfl rfl (does_pick rfl rfl rfl rfl) ?_
                   intro a hA
                   refine seq_do hA rfl rfl rfl (does_assign rfl) ?_
                   intro a hA
                   refine seq_end ?_
                   refine hK189 _ _ ?_
                   refine wp_cond_false (hA.ev rfl) ?_
                   refine wp_seq_k (fun K204 hK204 => ?_)
                   refine wp_region_lit ?_
                   refine seq_do (v := .pointer (some ⟨g2, 2, none⟩)) hA rfl rfl rfl (does_field CpB_fld_23_2 rfl rfl) ?_
                   intro a hA
                   refine seq_do hA rfl rfl rfl (m_load1 hM CpB_is1_3 rfl 4 rfl rfl) ?_
                   intro a hA
                   refine seq_do (v := .bool false) hA rfl rfl rfl (does_bin rfl rfl (fun w => (bin_eql w).trans (by rw [show ((m == 1)) = false from hb190]))) ?_
                   intro a hA
                   refine seq_do hA rfl rfl rfl (does_assign rfl) ?_
                   intro a hA
                   refine seq_end ?_
                   refine hK204 _ _ ?_
                   refine wp_cond_false (hA.ev rfl) ?_
                   refine wp_skip ?_
                   refine hK166 _ _ ?_
                   refine wp_region_lit ?_
                   refine seq_do hA rfl rfl rfl (does_move rfl) ?_
                   intro a hA
                   refine seq_do (v := .int .i64 (((j + 1 : Nat) : Int))) hA rfl rfl rfl (does_bin rfl rfl (ar_add ((in_i64 (by omega) (by omega)).trans (by omega)))) ?_
                   intro a hA
                   refine seq_do hA rfl rfl rfl (does_assign rfl) ?_
                   intro a hA
                   refine seq_end ?_
                   have hx9 : ([ur] : List Int).getD j 0 = ur := by rw [show j = 0 from by omega]; rfl
                   replace hM : Mg w w183 (.row 21 1 (.slice (some ⟨g103, 0, none⟩) 1 1) 1 ((runeV ([ur]))) :: .row 78 3 (.slice so24 us.length ca25) us.length ((unitV us)) :: .row BY 1 (vp) acc2.length ((Lib.byteCells acc2)) :: .obj g2 (.cells #[.int .i64 c, .int .i64 k, .int .i64 m] 23) :: []) := by
                     have h9 := hM.sub (.cons _ (.cons_cons _ (.cons_cons _ (.cons_cons _ (.cons_cons _ (.refl _))))))
                     exact h9
                   refine hK161 _ _ _ (by omega) ⟨j + 1, acc2, vp, rfl, ⟨by rw [← hrun2, us_oneL (k := k) (ua := ua) (ur := ur) hten (j := j) (by omega), List.cons_append]; exact (run_bad2 (by omega) (by omega) (.inr hb168)).symm, by omega, by omega⟩, hA.keep _ ⟨rfl, rfl, rfl, rfl, rfl, rfl, rfl, rfl, rfl, rfl, rfl, rfl, rfl, rfl, rfl, rfl, rfl, rfl, rfl, rfl, rfl, rfl, rfl, rfl, rfl, rfl, rfl, rfl, rfl, rfl, rfl, rfl, rfl, rfl, rfl, rfl, rfl, rfl, rfl, rfl, rfl, rfl, trivial⟩, hM⟩
           · have hb165' := of_decide_eq_false hb165
             refine seq_do (v := .bool false) hA rfl rfl rfl (does_bin rfl rfl (fun w => (bin_lss w).trans (by rw [hb165]))) ?_
             intro a hA
             refine seq_end ?_
             refine hK164 _ _ ?_
             refine wp_cond_false (hA.ev rfl) ?_
             refine wp_exit ?_
             refine hK35 _ _ ?_
             refine wp_region_lit ?_
             refine seq_do hA rfl rfl rfl (does_move rfl) ?_
             intro a hA
             refine seq_do (v := .int .i64 (((i + 1 : Nat) : Int))) hA rfl rfl rfl (does_bin rfl rfl (ar_add ((in_i64 (by omega) (by omega)).trans (by omega)))) ?_
             intro a hA
             refine seq_do hA rfl rfl rfl (does_assign rfl) ?_
             intro a hA
             refine seq_end ?_
             replace hM : Mg w w160 (.row 78 3 (.slice so24 us.length ca25) us.length ((unitV us)) :: .row BY 1 (vp) acc2.length ((Lib.byteCells acc2)) :: .obj g2 (.cells #[.int .i64 c, .int .i64 k, .int .i64 m] 23) :: []) := by
               have h9 := hM.sub (.cons _ (.cons_cons _ (.cons_cons _ (.cons_cons _ (.refl _)))))
               exact h9
             refine hK30 _ _ _ (by omega) ⟨i + 1, acc2, vp, rfl, ⟨by rw [← hrun2, us_one_over (k := k) (ua := ua) (ur := ur) hten (j := j) (by omega), List.nil_append], by omega, by omega⟩, hA.keep _ ⟨rfl, rfl, rfl, rfl, rfl, rfl, rfl, rfl, rfl, rfl, rfl, rfl, rfl, rfl, rfl, rfl, trivial⟩, hM⟩
     · have hb34' := of_decide_eq_false hb34
       refine seq_do (v := .bool false) hA rfl rfl rfl (does_bin rfl rfl (fun w => (bin_lss w).trans (by rw [hb34]))) ?_
       intro a hA
       refine seq_end ?_
       refine hK33 _ _ ?_
       refine wp_cond_false (hA.ev rfl) ?_
       refine wp_exit ?_
       refine hK27 _ _ ?_
       refine wp_seq_k (fun K205 hK205 => ?_)
       refine wp_region_lit ?_
       refine seq_do hA rfl rfl rfl (does_move rfl) ?_
       intro a hA
       refine seq_do hA rfl rfl rfl (does_assign rfl) ?_
       intro a hA
       refine seq_do hA rfl rfl rfl (does_assign rfl) ?_
       intro a hA
       refine seq_do hA rfl rfl rfl (does_assign rfl) ?_
       intro a hA
       refine seq_end ?_
       refine hK205 _ _ ?_
       refine wp_ret ?_
       refine hret _ _ ?_
       refine ends (v := .tuple #[vo, .int .i64 0, .int .i64 0]) hA rfl (.cons (res_tmp rfl) (.cons (res_tmp rfl) (.cons (res_tmp rfl) .nil))) rfl ?_
       rw [List.drop_eq_nil_of_le (by omega), show expand (eolsS k) [] = [] from rfl] at hrun
       replace hrun : ((acc, 0, 0) : List UInt8 × Int × Int) = R := hrun
       subst hrun
       rw [encS_go (by omega) (by omega) (hus ▸ hR), if_neg (show ¬ ¬ ((0 : Int) = 0) by decide)]
       exact ⟨_, rfl, by show acc.length ≤ _; omega, hM.sub (.cons _ (.cons_cons _ (.cons _ (.refl _))))⟩
end Go.Proofs.Ytcjgjbaadmohbaa
