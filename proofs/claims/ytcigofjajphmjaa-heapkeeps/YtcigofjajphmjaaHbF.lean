/- Walks of what is reached. -/
import Derived.Test.YtcigofjajphmjaaHbE
import Derived.Test.YtcigofjajphmjaaHd
namespace Go.Proofs.Ytcigofjajphmjaa
open Go.RowKit
set_option linter.unusedVariables false
set_option linter.unusedSimpArgs false
set_option maxRecDepth 100000
theorem HbF_is1_3 : Is1 Try.prog 3 := ⟨⟨_, Try.underlying3, rfl⟩, by kernel_rfl⟩
theorem HbF_is1_33 : Is1 Try.prog 33 := ⟨⟨_, Try.underlying33, rfl⟩, by kernel_rfl⟩
theorem HbF_is1_4 : Is1 Try.prog 4 := ⟨⟨_, Try.underlying4, rfl⟩, by kernel_rfl⟩
theorem HbF_is1_59 : Is1 Try.prog 59 := ⟨⟨_, Try.underlying59, rfl⟩, by kernel_rfl⟩
theorem HbF_is1_67 : Is1 Try.prog 67 := ⟨⟨_, Try.underlying67, rfl⟩, by kernel_rfl⟩
theorem HbF_is1_87 : Is1 Try.prog 87 := ⟨⟨_, Try.underlying87, rfl⟩, by kernel_rfl⟩
theorem HbF_fld_32_0 : FieldAt Try.prog 32 0 0 := ⟨_, _, Try.underlying32, rfl, rfl, by kernel_rfl⟩
theorem HbF_fld_32_1 : FieldAt Try.prog 32 1 1 := ⟨_, _, Try.underlying32, rfl, rfl, by kernel_rfl⟩
theorem HbF_fld_73_0 : FieldAt Try.prog 73 0 0 := ⟨_, _, Try.underlying73, rfl, rfl, by kernel_rfl⟩
theorem HbF_isS_32 : IsS Try.prog 32 2 := ⟨⟨_, Try.underlying32⟩, by kernel_rfl⟩
theorem visit_any {w0 w : World} {x : Int} {b1 b2 fm wc : Nat} {wo : Option Addr} {ws : List Int} {T : List Ck} (hwl : ws.length ≤ 1000000) (hM0 : Mg w0 w (.obj b1 (.cells #[.map (some fm)] 87) :: .obj b2 (.cells #[.slice wo ws.length wc] 33) :: .obj fm (mapO (mkE 0 ws) ws.length) :: .row 3 1 (.slice wo ws.length wc) ws.length (intC ws) :: T)) : Calls Try.prog 49 #[.int .i64 x, .pointer (some ⟨b1, 0, none⟩), .pointer (some ⟨b2, 0, none⟩)] w fun e w' => ∃ wo' wc', e = .returned (.tuple #[]) ∧ Mg w0 w' (.obj b1 (.cells #[.map (some fm)] 87) :: .obj b2 (.cells #[.slice wo' ((vis ws x).length) wc'] 33) :: .obj fm (mapO (mkE 0 (vis ws x)) ((vis ws x).length)) :: .row 3 1 (.slice wo' ((vis ws x).length) wc') ((vis ws x).length) (intC (vis ws x)) :: T) := by
 have hM : Mg w0 w (.obj b1 (.cells #[.map (some fm)] 87) :: .obj b2 (.cells #[.slice wo ws.length wc] 33) :: .obj fm (mapO (mkE 0 ws) ws.length) :: .row 3 1 (.slice wo ws.length wc) ws.length (intC ws) :: T) := hM0
 refine walk_of (l := [(0, .int .i64 x), (1, .pointer (some ⟨b1, 0, none⟩)), (2, .pointer (some ⟨b2, 0, none⟩))]) Try.func49 rfl Try.ntmps49 rfl rfl ?_
 intro Q hret hnorm hP a hA
 refine wp_seq_k (fun K1 hK1 => ?_)
 refine wp_region_lit ?_
 refine seq_do hA rfl rfl rfl (m_load1 hM HbF_is1_87 rfl 0 rfl rfl) ?_
 intro a hA
 refine seq_do hA rfl rfl rfl (does_move rfl) ?_
 intro a hA
 rcases Bool.eq_false_or_eq_true (decide (x ∈ ws)) with hb2 | hb2
 · obtain ⟨e3, he4, hv5⟩ := mkE_hit (i := 0) (of_decide_eq_true hb2)
   refine seq_do (v := .tuple #[.agg #[], .bool true]) hA rfl rfl rfl (m_lookY hM Try.underlying87 Try.underlying3 rfl rfl 2 rfl he4 (by rw [hv5]; rfl)) ?_
   intro a hA
   refine seq_do hA rfl rfl rfl (does_move rfl) ?_
   intro a hA
   refine seq_do (v := .agg #[]) hA rfl rfl rfl (does_extract (vs := [.agg #[], .bool true]) rfl rfl) ?_
   intro a hA
   refine seq_do (v := .bool true) hA rfl rfl rfl (does_extract (vs := [.agg #[], .bool true]) rfl rfl) ?_
   intro a hA
   refine s_new (vs := []) (t := 102) hA hM rfl rfl rfl (fun g => .pointer (some ⟨g, 0, none⟩)) (does_alloc (z := .agg #[]) (by kernel_rfl) rfl) (by decide) ?_
   intro g6 w7 hM a hA
   refine s_store (us := []) (L' := (.obj g6 (.cells #[] 102) :: .obj b1 (.cells #[.map (some fm)] 87) :: .obj b2 (.cells #[.slice wo ws.length wc] 33) :: .obj fm (mapO (mkE 0 ws) ws.length) :: .row 3 1 (.slice wo ws.length wc) ws.length (intC ws) :: T)) hA hM rfl rfl (m_store rfl rfl rfl (by kernel_rfl) hM 0 rfl rfl rfl) 0 rfl rfl rfl ?_
   intro w8 hM
   refine seq_do hA rfl rfl rfl (does_assign rfl) ?_
   intro a hA
   refine seq_end ?_
   refine hK1 _ _ ?_
   refine wp_seq_k (fun K9 hK9 => ?_)
   refine wp_region_lit ?_
   refine seq_do hA rfl rfl rfl (does_move rfl) ?_
   intro a hA
   rcases Bool.eq_false_or_eq_true ((x != 0)) with hb10 | hb10
   · have hb10' := bne_iff_ne.1 hb10
     refine seq_do (v := .bool true) hA rfl rfl rfl (does_bin rfl rfl (fun w => (bin_neq w).trans (by rw [hb10]))) ?_
     intro a hA
     refine seq_do hA rfl rfl rfl (does_move rfl) ?_
     intro a hA
     refine seq_do hA rfl rfl rfl (does_move rfl) ?_
     intro a hA
     refine seq_do (v := .bool false) hA rfl rfl rfl (does_un rfl un_not) ?_
     intro a hA
     refine seq_do (v := .bool false) hA rfl rfl rfl (does_pick rfl rfl rfl rfl) ?_
     intro a hA
     refine seq_end ?_
     refine hK9 _ _ ?_
     refine wp_cond_false (hA.ev rfl) ?_
     refine wp_skip ?_
     refine hnorm _ _ ?_
     refine ends (v := .tuple #[]) hA rfl .nil rfl ?_
     replace hM : Mg w0 w8 (.row 3 1 (.slice wo ws.length wc) ws.length (intC ws) :: .obj g6 (.cells #[] 102) :: .obj b1 (.cells #[.map (some fm)] 87) :: .obj b2 (.cells #[.slice wo ws.length wc] 33) :: .obj fm (mapO (mkE 0 ws) ws.length) :: T) := hM.bring 4 rfl rfl
     replace hM : Mg w0 w8 (.obj fm (mapO (mkE 0 ws) ws.length) :: .row 3 1 (.slice wo ws.length wc) ws.length (intC ws) :: .obj g6 (.cells #[] 102) :: .obj b1 (.cells #[.map (some fm)] 87) :: .obj b2 (.cells #[.slice wo ws.length wc] 33) :: T) := hM.bring 4 rfl rfl
     replace hM : Mg w0 w8 (.obj b2 (.cells #[.slice wo ws.length wc] 33) :: .obj fm (mapO (mkE 0 ws) ws.length) :: .row 3 1 (.slice wo ws.length wc) ws.length (intC ws) :: .obj g6 (.cells #[] 102) :: .obj b1 (.cells #[.map (some fm)] 87) :: T) := hM.bring 4 rfl rfl
     replace hM : Mg w0 w8 (.obj b1 (.cells #[.map (some fm)] 87) :: .obj b2 (.cells #[.slice wo ws.length wc] 33) :: .obj fm (mapO (mkE 0 ws) ws.length) :: .row 3 1 (.slice wo ws.length wc) ws.length (intC ws) :: .obj g6 (.cells #[] 102) :: T) := hM.bring 4 rfl rfl
     replace hM : Mg w0 w8 (.obj b1 (.cells #[.map (some fm)] 87) :: .obj b2 (.cells #[.slice wo ws.length wc] 33) :: .obj fm (mapO (mkE 0 ws) ws.length) :: .row 3 1 (.slice wo ws.length wc) ws.length (intC ws) :: T) := by
       have h9 := hM.sub (.cons_cons _ (.cons_cons _ (.cons_cons _ (.cons_cons _ (.cons _ (.refl _))))))
       exact h9
     have e9 : vis ws x = ws := by unfold vis; rw [if_neg (fun k => k.2 (of_decide_eq_true hb2))]
     refine ⟨wo, wc, rfl, ?_⟩
     rw [e9]
     exact hM
   · have hb10' := bne_eq_false_iff_eq.1 hb10
     refine seq_do (v := .bool false) hA rfl rfl rfl (does_bin rfl rfl (fun w => (bin_neq w).trans (by rw [hb10]))) ?_
     intro a hA
     refine seq_do hA rfl rfl rfl (does_move rfl) ?_
     intro a hA
     refine seq_skip hA rfl rfl rfl ?_
     intro a hA
     refine seq_skip hA rfl rfl rfl ?_
     intro a hA
     refine seq_do (v := .bool false) hA rfl rfl rfl (does_pick rfl rfl rfl rfl) ?_
     intro a hA
     refine seq_end ?_
     refine hK9 _ _ ?_
     refine wp_cond_false (hA.ev rfl) ?_
     refine wp_skip ?_
     refine hnorm _ _ ?_
     refine ends (v := .tuple #[]) hA rfl .nil rfl ?_
     replace hM : Mg w0 w8 (.row 3 1 (.slice wo ws.length wc) ws.length (intC ws) :: .obj g6 (.cells #[] 102) :: .obj b1 (.cells #[.map (some fm)] 87) :: .obj b2 (.cells #[.slice wo ws.length wc] 33) :: .obj fm (mapO (mkE 0 ws) ws.length) :: T) := hM.bring 4 rfl rfl
     replace hM : Mg w0 w8 (.obj fm (mapO (mkE 0 ws) ws.length) :: .row 3 1 (.slice wo ws.length wc) ws.length (intC ws) :: .obj g6 (.cells #[] 102) :: .obj b1 (.cells #[.map (some fm)] 87) :: .obj b2 (.cells #[.slice wo ws.length wc] 33) :: T) := hM.bring 4 rfl rfl
     replace hM : Mg w0 w8 (.obj b2 (.cells #[.slice wo ws.length wc] 33) :: .obj fm (mapO (mkE 0 ws) ws.length) :: .row 3 1 (.slice wo ws.length wc) ws.length (intC ws) :: .obj g6 (.cells #[] 102) :: .obj b1 (.cells #[.map (some fm)] 87) :: T) := hM.bring 4 rfl rfl
     replace hM : Mg w0 w8 (.obj b1 (.cells #[.map (some fm)] 87) :: .obj b2 (.cells #[.slice wo ws.length wc] 33) :: .obj fm (mapO (mkE 0 ws) ws.length) :: .row 3 1 (.slice wo ws.length wc) ws.length (intC ws) :: .obj g6 (.cells #[] 102) :: T) := hM.bring 4 rfl rfl
     replace hM : Mg w0 w8 (.obj b1 (.cells #[.map (some fm)] 87) :: .obj b2 (.cells #[.slice wo ws.length wc] 33) :: .obj fm (mapO (mkE 0 ws) ws.length) :: .row 3 1 (.slice wo ws.length wc) ws.length (intC ws) :: T) := by
       have h9 := hM.sub (.cons_cons _ (.cons_cons _ (.cons_cons _ (.cons_cons _ (.cons _ (.refl _))))))
       exact h9
     have e9 : vis ws x = ws := by unfold vis; rw [if_neg (fun k => k.2 (of_decide_eq_true hb2))]
     refine ⟨wo, wc, rfl, ?_⟩
     rw [e9]
     exact hM
 · refine seq_do (v := .tuple #[.agg #[], .bool false]) hA rfl rfl rfl (m_lookN (zv := .agg #[]) hM Try.underlying87 Try.underlying3 (by kernel_rfl) rfl rfl 2 rfl (mkE_miss (of_decide_eq_false hb2)) rfl) ?_
   intro a hA
   refine seq_do hA rfl rfl rfl (does_move rfl) ?_
   intro a hA
   refine seq_do (v := .agg #[]) hA rfl rfl rfl (does_extract (vs := [.agg #[], .bool false]) rfl rfl) ?_
   intro a hA
   refine seq_do (v := .bool false) hA rfl rfl rfl (does_extract (vs := [.agg #[], .bool false]) rfl rfl) ?_
   intro a hA
   refine s_new (vs := []) (t := 102) hA hM rfl rfl rfl (fun g => .pointer (some ⟨g, 0, none⟩)) (does_alloc (z := .agg #[]) (by kernel_rfl) rfl) (by decide) ?_
   intro g11 w12 hM a hA
   refine s_store (us := []) (L' := (.obj g11 (.cells #[] 102) :: .obj b1 (.cells #[.map (some fm)] 87) :: .obj b2 (.cells #[.slice wo ws.length wc] 33) :: .obj fm (mapO (mkE 0 ws) ws.length) :: .row 3 1 (.slice wo ws.length wc) ws.length (intC ws) :: T)) hA hM rfl rfl (m_store rfl rfl rfl (by kernel_rfl) hM 0 rfl rfl rfl) 0 rfl rfl rfl ?_
   intro w13 hM
   refine seq_do hA rfl rfl rfl (does_assign rfl) ?_
   intro a hA
   refine seq_end ?_
   refine hK1 _ _ ?_
   refine wp_seq_k (fun K14 hK14 => ?_)
   refine wp_region_lit ?_
   refine seq_do hA rfl rfl rfl (does_move rfl) ?_
   intro a hA
   rcases Bool.eq_false_or_eq_true ((x != 0)) with hb15 | hb15
   · have hb15' := bne_iff_ne.1 hb15
     refine seq_do (v := .bool true) hA rfl rfl rfl (does_bin rfl rfl (fun w => (bin_neq w).trans (by rw [hb15]))) ?_
     intro a hA
     refine seq_do hA rfl rfl rfl (does_move rfl) ?_
     intro a hA
     refine seq_do hA rfl rfl rfl (does_move rfl) ?_
     intro a hA
     refine seq_do (v := .bool true) hA rfl rfl rfl (does_un rfl un_not) ?_
     intro a hA
     refine seq_do (v := .bool true) hA rfl rfl rfl (does_pick rfl rfl rfl rfl) ?_
     intro a hA
     refine seq_end ?_
     refine hK14 _ _ ?_
     refine wp_cond_true (hA.ev rfl) ?_
     refine wp_seq_k (fun K16 hK16 => ?_)
     refine wp_region_lit ?_
     refine seq_do hA rfl rfl rfl (m_load1 hM HbF_is1_87 rfl 1 rfl rfl) ?_
     intro a hA
     refine seq_do hA rfl rfl rfl (does_move rfl) ?_
     intro a hA
     refine seq_do (v := .agg #[]) hA rfl rfl rfl (does_build rfl (fun w => by kernel_rfl)) ?_
     intro a hA
     refine s_setObj (L' := (.obj g11 (.cells #[] 102) :: .obj b1 (.cells #[.map (some fm)] 87) :: .obj b2 (.cells #[.slice wo ws.length wc] 33) :: .obj fm (mapO (mkE 0 ws ++ [⟨x, .agg #[], ws.length⟩]) (ws.length + 1)) :: .row 3 1 (.slice wo ws.length wc) ws.length (intC ws) :: T)) hA hM rfl rfl (sets_new hM Try.underlying87 Try.underlying3 rfl rfl rfl 3 rfl (mkE_miss (of_decide_eq_false hb2))) 3 rfl (quiet_map _ _) rfl ?_
     intro w17 hM
     replace hM : Mg w0 w17 (.obj g11 (.cells #[] 102) :: .obj b1 (.cells #[.map (some fm)] 87) :: .obj b2 (.cells #[.slice wo ws.length wc] 33) :: .obj fm (mapO (mkE 0 (ws ++ [x])) (ws.length + 1)) :: .row 3 1 (.slice wo ws.length wc) ws.length (intC ws) :: T) := by rw [mkE_snoc, Nat.zero_add]; exact hM
     refine seq_end ?_
     refine hK16 _ _ ?_
     refine wp_region_lit ?_
     refine seq_do hA rfl rfl rfl (m_load1 hM HbF_is1_33 rfl 2 rfl rfl) ?_
     intro a hA
     refine seq_do hA rfl rfl rfl (does_move rfl) ?_
     intro a hA
     refine s_litE (e := 3) (sz := 1) (m := 1) (vs := intC [x]) hA hM rfl rfl rfl (does_buildSlice rfl (by kernel_rfl)) rfl rfl (.inl (by decide)) ?_
     intro g18 w19 hM a hA
     refine s_appendE (e := 3) (sz := 1) (k := 5) (q := ws.length) (m := 1) (xs := intC ws) (news := intC [x]) (L' := fun v20 => (.row 3 1 (.slice (some ⟨g18, 0, none⟩) 1 1) 1 (intC [x]) :: .obj g11 (.cells #[] 102) :: .obj b1 (.cells #[.map (some fm)] 87) :: .obj b2 (.cells #[.slice wo ws.length wc] 33) :: .obj fm (mapO (mkE 0 (ws ++ [x])) (ws.length + 1)) :: .row 3 1 (v20) (ws.length + 1) (intC ws ++ intC [x]) :: T)) hA rfl rfl rfl (m_appendE (z := .int .i64 0) (sz := 1) (by_ := 8) Try.underlying33 (by kernel_rfl) rfl rfl rfl hM 5 rfl rfl 0 rfl rfl rfl rfl (by omega)) (fun _ => rfl) ?_
     intro v20 w21 hM a hA
     replace hM : Mg w0 w21 (.row 3 1 (.slice (some ⟨g18, 0, none⟩) 1 1) 1 (intC [x]) :: .obj g11 (.cells #[] 102) :: .obj b1 (.cells #[.map (some fm)] 87) :: .obj b2 (.cells #[.slice wo ws.length wc] 33) :: .obj fm (mapO (mkE 0 (ws ++ [x])) (ws.length + 1)) :: .row 3 1 (v20) (ws.length + 1) (intC (ws ++ [x])) :: T) := by rw [intC_append]; exact hM
     obtain ⟨so22, ca23, rfl⟩ := owns_anyH (hM.has 5 rfl)
     refine s_store (us := [.slice so22 (ws.length + 1) ca23]) (L' := (.row 3 1 (.slice (some ⟨g18, 0, none⟩) 1 1) 1 (intC [x]) :: .obj g11 (.cells #[] 102) :: .obj b1 (.cells #[.map (some fm)] 87) :: .obj b2 (.cells #[.slice so22 (ws.length + 1) ca23] 33) :: .obj fm (mapO (mkE 0 (ws ++ [x])) (ws.length + 1)) :: .row 3 1 (.slice so22 (ws.length + 1) ca23) (ws.length + 1) (intC (ws ++ [x])) :: T)) hA hM rfl rfl (m_store rfl rfl rfl (by kernel_rfl) hM 3 rfl rfl rfl) 3 rfl rfl rfl ?_
     intro w24 hM
     refine seq_end ?_
     refine hnorm _ _ ?_
     refine ends (v := .tuple #[]) hA rfl .nil rfl ?_
     replace hM : Mg w0 w24 (.row 3 1 (.slice so22 (ws.length + 1) ca23) (ws.length + 1) (intC (ws ++ [x])) :: .row 3 1 (.slice (some ⟨g18, 0, none⟩) 1 1) 1 (intC [x]) :: .obj g11 (.cells #[] 102) :: .obj b1 (.cells #[.map (some fm)] 87) :: .obj b2 (.cells #[.slice so22 (ws.length + 1) ca23] 33) :: .obj fm (mapO (mkE 0 (ws ++ [x])) (ws.length + 1)) :: T) := hM.bring 5 rfl rfl
     replace hM : Mg w0 w24 (.obj fm (mapO (mkE 0 (ws ++ [x])) (ws.length + 1)) :: .row 3 1 (.slice so22 (ws.length + 1) ca23) (ws.length + 1) (intC (ws ++ [x])) :: .row 3 1 (.slice (some ⟨g18, 0, none⟩) 1 1) 1 (intC [x]) :: .obj g11 (.cells #[] 102) :: .obj b1 (.cells #[.map (some fm)] 87) :: .obj b2 (.cells #[.slice so22 (ws.length + 1) ca23] 33) :: T) := hM.bring 5 rfl rfl
     replace hM : Mg w0 w24 (.obj b2 (.cells #[.slice so22 (ws.length + 1) ca23] 33) :: .obj fm (mapO (mkE 0 (ws ++ [x])) (ws.length + 1)) :: .row 3 1 (.slice so22 (ws.length + 1) ca23) (ws.length + 1) (intC (ws ++ [x])) :: .row 3 1 (.slice (some ⟨g18, 0, none⟩) 1 1) 1 (intC [x]) :: .obj g11 (.cells #[] 102) :: .obj b1 (.cells #[.map (some fm)] 87) :: T) := hM.bring 5 rfl rfl
     replace hM : Mg w0 w24 (.obj b1 (.cells #[.map (some fm)] 87) :: .obj b2 (.cells #[.slice so22 (ws.length + 1) ca23] 33) :: .obj fm (mapO (mkE 0 (ws ++ [x])) (ws.length + 1)) :: .row 3 1 (.slice so22 (ws.length + 1) ca23) (ws.length + 1) (intC (ws ++ [x])) :: .row 3 1 (.slice (some ⟨g18, 0, none⟩) 1 1) 1 (intC [x]) :: .obj g11 (.cells #[] 102) :: T) := hM.bring 5 rfl rfl
     replace hM : Mg w0 w24 (.obj b1 (.cells #[.map (some fm)] 87) :: .obj b2 (.cells #[.slice so22 (ws.length + 1) ca23] 33) :: .obj fm (mapO (mkE 0 (ws ++ [x])) (ws.length + 1)) :: .row 3 1 (.slice so22 (ws.length + 1) ca23) (ws.length + 1) (intC (ws ++ [x])) :: T) := by
       have h9 := hM.sub (.cons_cons _ (.cons_cons _ (.cons_cons _ (.cons_cons _ (.cons _ (.cons _ (.refl _)))))))
       exact h9
     have e9 : vis ws x = ws ++ [x] := by unfold vis; rw [if_pos ⟨hb15', of_decide_eq_false hb2⟩]
     refine ⟨so22, ca23, rfl, ?_⟩
     rw [e9, show (ws ++ [x]).length = ws.length + 1 from by simp]
     exact hM
   · have hb15' := bne_eq_false_iff_eq.1 hb15
     refine seq_do (v := .bool false) hA rfl rfl rfl (does_bin rfl rfl (fun w => (bin_neq w).trans (by rw [hb15]))) ?_
     intro a hA
     refine seq_do hA rfl rfl rfl (does_move rfl) ?_
     intro a hA
     refine seq_skip hA rfl rfl rfl ?_
     intro a hA
     refine seq_skip hA rfl rfl rfl ?_
     intro a hA
     refine seq_do (v := .bool false) hA rfl rfl rfl (does_pick rfl rfl rfl rfl) ?_
     intro a hA
     refine seq_end ?_
     refine hK14 _ _ ?_
     refine wp_cond_false (hA.ev rfl) ?_
     refine wp_skip ?_
     refine hnorm _ _ ?_
     refine ends (v := .tuple #[]) hA rfl .nil rfl ?_
     replace hM : Mg w0 w13 (.row 3 1 (.slice wo ws.length wc) ws.length (intC ws) :: .obj g11 (.cells #[] 102) :: .obj b1 (.cells #[.map (some fm)] 87) :: .obj b2 (.cells #[.slice wo ws.length wc] 33) :: .obj fm (mapO (mkE 0 ws) ws.length) :: T) := hM.bring 4 rfl rfl
     replace hM : Mg w0 w13 (.obj fm (mapO (mkE 0 ws) ws.length) :: .row 3 1 (.slice wo ws.length wc) ws.length (intC ws) :: .obj g11 (.cells #[] 102) :: .obj b1 (.cells #[.map (some fm)] 87) :: .obj b2 (.cells #[.slice wo ws.length wc] 33) :: T) := hM.bring 4 rfl rfl
     replace hM : Mg w0 w13 (.obj b2 (.cells #[.slice wo ws.length wc] 33) :: .obj fm (mapO (mkE 0 ws) ws.length) :: .row 3 1 (.slice wo ws.length wc) ws.length (intC ws) :: .obj g11 (.cells #[] 102) :: .obj b1 (.cells #[.map (some fm)] 87) :: T) := hM.bring 4 rfl rfl
     replace hM : Mg w0 w13 (.obj b1 (.cells #[.map (some fm)] 87) :: .obj b2 (.cells #[.slice wo ws.length wc] 33) :: .obj fm (mapO (mkE 0 ws) ws.length) :: .row 3 1 (.slice wo ws.length wc) ws.length (intC ws) :: .obj g11 (.cells #[] 102) :: T) := hM.bring 4 rfl rfl
     replace hM : Mg w0 w13 (.obj b1 (.cells #[.map (some fm)] 87) :: .obj b2 (.cells #[.slice wo ws.length wc] 33) :: .obj fm (mapO (mkE 0 ws) ws.length) :: .row 3 1 (.slice wo ws.length wc) ws.length (intC ws) :: T) := by
       have h9 := hM.sub (.cons_cons _ (.cons_cons _ (.cons_cons _ (.cons_cons _ (.cons _ (.refl _))))))
       exact h9
     have e9 : vis ws x = ws := by unfold vis; rw [if_neg (fun k => k.1 hb15')]
     refine ⟨wo, wc, rfl, ?_⟩
     rw [e9]
     exact hM
theorem reached_any {w0 w : World} {h m last ss ls sc lc : Nat} {sg lg : Option Addr} {gs gl : List (Nat × Nat)} {os : List Ob} {X : List Ck} {rs : List Int} {ro : Option Addr} {rc : Nat} (hnT : noBld (os.map Ob.row ++ X)) (hol : os.length ≤ 1000000) (hcl : ∀ o ∈ os, o.ws.length ≤ 1000000) (hrf : Refs os) (hrl : rs.length ≤ 1000000000) (hrs : ∀ r ∈ rs, r = 0 ∨ (fO r os).isSome = true) (hM0 : Mg w0 w (.obj h (.cells #[.map (some m), .int .i64 (((last : Nat) : Int)), .int .i64 (((ss : Nat) : Int)), .slice sg gs.length sc, .int .i64 (((ls : Nat) : Int)), .slice lg gl.length lc] 73) :: .obj m (mapO (os.map Ob.en) last) :: .row 96 2 (.slice sg gs.length sc) gs.length (gapC gs) :: .row 96 2 (.slice lg gl.length lc) gl.length (gapC gl) :: .row 3 1 (.slice ro rs.length rc) rs.length (intC rs) :: (os.map Ob.row ++ X))) : Calls Try.prog 36 #[.pointer (some ⟨h, 0, none⟩), .slice ro rs.length rc] w fun e w' => ∃ fm ws, e = .returned (.map (some fm)) ∧ (Vs os rs ws ∧ ∀ x, x ∈ ws ↔ Rc os rs x) ∧ Mg w0 w' (.obj h (.cells #[.map (some m), .int .i64 (((last : Nat) : Int)), .int .i64 (((ss : Nat) : Int)), .slice sg gs.length sc, .int .i64 (((ls : Nat) : Int)), .slice lg gl.length lc] 73) :: .obj m (mapO (os.map Ob.en) last) :: .row 96 2 (.slice sg gs.length sc) gs.length (gapC gs) :: .row 96 2 (.slice lg gl.length lc) gl.length (gapC gl) :: .row 3 1 (.slice ro rs.length rc) rs.length (intC rs) :: .obj fm (mapO (mkE 0 ws) ws.length) :: (os.map Ob.row ++ X)) := by
 have hM : Mg w0 w (.obj h (.cells #[.map (some m), .int .i64 (((last : Nat) : Int)), .int .i64 (((ss : Nat) : Int)), .slice sg gs.length sc, .int .i64 (((ls : Nat) : Int)), .slice lg gl.length lc] 73) :: .obj m (mapO (os.map Ob.en) last) :: .row 96 2 (.slice sg gs.length sc) gs.length (gapC gs) :: .row 96 2 (.slice lg gl.length lc) gl.length (gapC gl) :: .row 3 1 (.slice ro rs.length rc) rs.length (intC rs) :: (os.map Ob.row ++ X)) := hM0
 refine walk_of (l := [(0, .pointer (some ⟨h, 0, none⟩)), (1, .slice ro rs.length rc)]) Try.func36 rfl Try.ntmps36 rfl rfl ?_
 intro Q hret hnorm hP a hA
 refine wp_seq_k (fun K1 hK1 => ?_)
 refine wp_region_lit ?_
 refine seq_do hA rfl rfl rfl (does_assign rfl) ?_
 intro a hA
 refine seq_end ?_
 refine hK1 _ _ ?_
 refine wp_seq_k (fun K2 hK2 => ?_)
 refine wp_region_lit ?_
 refine s_makeMap hA hM rfl rfl rfl rfl ?_
 intro g3 w4 hM a hA
 refine s_new (vs := [.map none]) (t := 87) hA hM rfl rfl rfl (fun g => .pointer (some ⟨g, 0, none⟩)) (does_alloc (z := .map none) (by kernel_rfl) rfl) (by decide) ?_
 intro g5 w6 hM a hA
 refine s_store (us := [.map (some g3)]) (L' := (.obj g5 (.cells #[.map (some g3)] 87) :: .obj g3 (mapO ([]) 0) :: .obj h (.cells #[.map (some m), .int .i64 (((last : Nat) : Int)), .int .i64 (((ss : Nat) : Int)), .slice sg gs.length sc, .int .i64 (((ls : Nat) : Int)), .slice lg gl.length lc] 73) :: .obj m (mapO (os.map Ob.en) last) :: .row 96 2 (.slice sg gs.length sc) gs.length (gapC gs) :: .row 96 2 (.slice lg gl.length lc) gl.length (gapC gl) :: .row 3 1 (.slice ro rs.length rc) rs.length (intC rs) :: (os.map Ob.row ++ X))) hA hM rfl rfl (m_store rfl rfl rfl (by kernel_rfl) hM 0 rfl rfl rfl) 0 rfl rfl rfl ?_
 intro w7 hM
 refine seq_end ?_
 refine hK2 _ _ ?_
 refine wp_seq_k (fun K8 hK8 => ?_)
 refine wp_region_lit ?_
 refine s_new (vs := [.slice none 0 0]) (t := 33) hA hM rfl rfl rfl (fun g => .pointer (some ⟨g, 0, none⟩)) (does_alloc (z := .slice none 0 0) (by kernel_rfl) rfl) (by decide) ?_
 intro g9 w10 hM a hA
 refine seq_end ?_
 refine hK8 _ _ ?_
 refine wp_seq_k (fun K11 hK11 => ?_)
 refine wp_region_lit ?_
 refine seq_do (v := .func (.func 49) #[] [.pointer (some ⟨g5, 0, none⟩), .pointer (some ⟨g9, 0, none⟩)].toArray) hA rfl rfl rfl (does_makeFunc rfl) ?_
 intro a hA
 refine seq_do hA rfl rfl rfl (does_assign rfl) ?_
 intro a hA
 refine seq_end ?_
 refine hK11 _ _ ?_
 refine wp_seq_k (fun K12 hK12 => ?_)
 refine wp_seq_k (fun K13 hK13 => ?_)
 refine wp_region_lit ?_
 refine seq_do hA rfl rfl rfl (does_move rfl) ?_
 intro a hA
 refine seq_do (v := .int .i64 (((rs.length : Nat) : Int))) hA rfl rfl rfl (does_len Try.underlying33 rfl) ?_
 intro a hA
 refine seq_do hA rfl rfl rfl (does_move rfl) ?_
 intro a hA
 refine seq_end ?_
 refine hK13 _ _ ?_
 refine wp_block ?_
 replace hM := hM.nilRowH (noBld_cons (by simp) (noBld_cons (by simp) (noBld_cons (by simp) (noBld_cons (by simp) (noBld_cons (by simp) (noBld_cons (by simp) (noBld_cons (by simp) (noBld_cons (by simp) hnT)))))))) 3 1
 replace hM : Mg w0 w10 (.obj g3 (mapO ([]) 0) :: .row 3 1 (.slice none 0 0) 0 (intC []) :: .obj g9 (.cells #[.slice none 0 0] 33) :: .obj g5 (.cells #[.map (some g3)] 87) :: .obj h (.cells #[.map (some m), .int .i64 (((last : Nat) : Int)), .int .i64 (((ss : Nat) : Int)), .slice sg gs.length sc, .int .i64 (((ls : Nat) : Int)), .slice lg gl.length lc] 73) :: .obj m (mapO (os.map Ob.en) last) :: .row 96 2 (.slice sg gs.length sc) gs.length (gapC gs) :: .row 96 2 (.slice lg gl.length lc) gl.length (gapC gl) :: .row 3 1 (.slice ro rs.length rc) rs.length (intC rs) :: (os.map Ob.row ++ X)) := hM.bring 3 rfl rfl
 replace hM : Mg w0 w10 (.obj g9 (.cells #[.slice none 0 0] 33) :: .obj g3 (mapO ([]) 0) :: .row 3 1 (.slice none 0 0) 0 (intC []) :: .obj g5 (.cells #[.map (some g3)] 87) :: .obj h (.cells #[.map (some m), .int .i64 (((last : Nat) : Int)), .int .i64 (((ss : Nat) : Int)), .slice sg gs.length sc, .int .i64 (((ls : Nat) : Int)), .slice lg gl.length lc] 73) :: .obj m (mapO (os.map Ob.en) last) :: .row 96 2 (.slice sg gs.length sc) gs.length (gapC gs) :: .row 96 2 (.slice lg gl.length lc) gl.length (gapC gl) :: .row 3 1 (.slice ro rs.length rc) rs.length (intC rs) :: (os.map Ob.row ++ X)) := hM.bring 2 rfl rfl
 replace hM : Mg w0 w10 (.obj g5 (.cells #[.map (some g3)] 87) :: .obj g9 (.cells #[.slice none 0 0] 33) :: .obj g3 (mapO ([]) 0) :: .row 3 1 (.slice none 0 0) 0 (intC []) :: .obj h (.cells #[.map (some m), .int .i64 (((last : Nat) : Int)), .int .i64 (((ss : Nat) : Int)), .slice sg gs.length sc, .int .i64 (((ls : Nat) : Int)), .slice lg gl.length lc] 73) :: .obj m (mapO (os.map Ob.en) last) :: .row 96 2 (.slice sg gs.length sc) gs.length (gapC gs) :: .row 96 2 (.slice lg gl.length lc) gl.length (gapC gl) :: .row 3 1 (.slice ro rs.length rc) rs.length (intC rs) :: (os.map Ob.row ++ X)) := hM.bring 3 rfl rfl
 replace hM : Mg w0 w10 (.row 3 1 (.slice ro rs.length rc) rs.length (intC rs) :: .obj g5 (.cells #[.map (some g3)] 87) :: .obj g9 (.cells #[.slice none 0 0] 33) :: .obj g3 (mapO ([]) 0) :: .row 3 1 (.slice none 0 0) 0 (intC []) :: .obj h (.cells #[.map (some m), .int .i64 (((last : Nat) : Int)), .int .i64 (((ss : Nat) : Int)), .slice sg gs.length sc, .int .i64 (((ls : Nat) : Int)), .slice lg gl.length lc] 73) :: .obj m (mapO (os.map Ob.en) last) :: .row 96 2 (.slice sg gs.length sc) gs.length (gapC gs) :: .row 96 2 (.slice lg gl.length lc) gl.length (gapC gl) :: (os.map Ob.row ++ X)) := hM.bring 8 rfl rfl
 replace hM : Mg w0 w10 (.row 96 2 (.slice lg gl.length lc) gl.length (gapC gl) :: .row 3 1 (.slice ro rs.length rc) rs.length (intC rs) :: .obj g5 (.cells #[.map (some g3)] 87) :: .obj g9 (.cells #[.slice none 0 0] 33) :: .obj g3 (mapO ([]) 0) :: .row 3 1 (.slice none 0 0) 0 (intC []) :: .obj h (.cells #[.map (some m), .int .i64 (((last : Nat) : Int)), .int .i64 (((ss : Nat) : Int)), .slice sg gs.length sc, .int .i64 (((ls : Nat) : Int)), .slice lg gl.length lc] 73) :: .obj m (mapO (os.map Ob.en) last) :: .row 96 2 (.slice sg gs.length sc) gs.length (gapC gs) :: (os.map Ob.row ++ X)) := hM.bring 8 rfl rfl
 replace hM : Mg w0 w10 (.row 96 2 (.slice sg gs.length sc) gs.length (gapC gs) :: .row 96 2 (.slice lg gl.length lc) gl.length (gapC gl) :: .row 3 1 (.slice ro rs.length rc) rs.length (intC rs) :: .obj g5 (.cells #[.map (some g3)] 87) :: .obj g9 (.cells #[.slice none 0 0] 33) :: .obj g3 (mapO ([]) 0) :: .row 3 1 (.slice none 0 0) 0 (intC []) :: .obj h (.cells #[.map (some m), .int .i64 (((last : Nat) : Int)), .int .i64 (((ss : Nat) : Int)), .slice sg gs.length sc, .int .i64 (((ls : Nat) : Int)), .slice lg gl.length lc] 73) :: .obj m (mapO (os.map Ob.en) last) :: (os.map Ob.row ++ X)) := hM.bring 8 rfl rfl
 replace hM : Mg w0 w10 (.obj m (mapO (os.map Ob.en) last) :: .row 96 2 (.slice sg gs.length sc) gs.length (gapC gs) :: .row 96 2 (.slice lg gl.length lc) gl.length (gapC gl) :: .row 3 1 (.slice ro rs.length rc) rs.length (intC rs) :: .obj g5 (.cells #[.map (some g3)] 87) :: .obj g9 (.cells #[.slice none 0 0] 33) :: .obj g3 (mapO ([]) 0) :: .row 3 1 (.slice none 0 0) 0 (intC []) :: .obj h (.cells #[.map (some m), .int .i64 (((last : Nat) : Int)), .int .i64 (((ss : Nat) : Int)), .slice sg gs.length sc, .int .i64 (((ls : Nat) : Int)), .slice lg gl.length lc] 73) :: (os.map Ob.row ++ X)) := hM.bring 8 rfl rfl
 replace hM : Mg w0 w10 (.obj h (.cells #[.map (some m), .int .i64 (((last : Nat) : Int)), .int .i64 (((ss : Nat) : Int)), .slice sg gs.length sc, .int .i64 (((ls : Nat) : Int)), .slice lg gl.length lc] 73) :: .obj m (mapO (os.map Ob.en) last) :: .row 96 2 (.slice sg gs.length sc) gs.length (gapC gs) :: .row 96 2 (.slice lg gl.length lc) gl.length (gapC gl) :: .row 3 1 (.slice ro rs.length rc) rs.length (intC rs) :: .obj g5 (.cells #[.map (some g3)] 87) :: .obj g9 (.cells #[.slice none 0 0] 33) :: .obj g3 (mapO ([]) 0) :: .row 3 1 (.slice none 0 0) 0 (intC []) :: (os.map Ob.row ++ X)) := hM.bring 8 rfl rfl
 refine wp_loop_n (fun m_ a w1 => ∃ (i0 : Nat) (ws0 : List Int) (wo0 : Option Addr) (wc0 : Nat), m_ = 1 + (rs.length - i0) ∧ (i0 ≤ rs.length ∧ Vs os rs ws0 ∧ ∀ r ∈ rs.take i0, r ≠ 0 → r ∈ ws0) ∧ Sl a 54 [(0, .pointer (some ⟨h, 0, none⟩)), (1, .slice ro rs.length rc), (4, .map none), (5, .pointer (some ⟨g5, 0, none⟩)), (6, .pointer (some ⟨g9, 0, none⟩)), (7, .func (.func 49) #[] [.pointer (some ⟨g5, 0, none⟩), .pointer (some ⟨g9, 0, none⟩)].toArray), (13, .map (some g3)), (14, .func (.func 49) #[] [.pointer (some ⟨g5, 0, none⟩), .pointer (some ⟨g9, 0, none⟩)].toArray), (15, .slice ro rs.length rc), (16, .int .i64 (((rs.length : Nat) : Int))), (17, .int .i64 (((i0 : Nat) : Int)))] ∧ Mg w0 w1 (.obj h (.cells #[.map (some m), .int .i64 (((last : Nat) : Int)), .int .i64 (((ss : Nat) : Int)), .slice sg gs.length sc, .int .i64 (((ls : Nat) : Int)), .slice lg gl.length lc] 73) :: .obj m (mapO (os.map Ob.en) last) :: .row 96 2 (.slice sg gs.length sc) gs.length (gapC gs) :: .row 96 2 (.slice lg gl.length lc) gl.length (gapC gl) :: .row 3 1 (.slice ro rs.length rc) rs.length (intC rs) :: .obj g5 (.cells #[.map (some g3)] 87) :: .obj g9 (.cells #[.slice wo0 ws0.length wc0] 33) :: .obj g3 (mapO (mkE 0 ws0) ws0.length) :: .row 3 1 (.slice wo0 ws0.length wc0) ws0.length (intC ws0) :: (os.map Ob.row ++ X))) _ ⟨0, [], none, 0, rfl, ⟨Nat.zero_le _, Vs.nil, fun r h => by simp at h⟩, hA.keep _ ⟨rfl, rfl, rfl, rfl, rfl, rfl, rfl, rfl, rfl, rfl, rfl, trivial⟩, hM⟩ ?_
 clear hM hA
 rintro m_ a w14 ⟨i0, ws0, wo0, wc0, rfl, hinv16, hA, hM⟩ K15 hK15
 obtain ⟨hi00, hV0, hR0⟩ := hinv16
 have hwl0 := hV0.len
 refine wp_seq_k (fun K17 hK17 => ?_)
 refine wp_region_lit ?_
 rcases Bool.eq_false_or_eq_true (decide (((i0 : Nat) : Int) < ((rs.length : Nat) : Int))) with hb18 | hb18
 · have hb18' := of_decide_eq_true hb18
   refine seq_do (v := .bool true) hA rfl rfl rfl (does_bin rfl rfl (fun w => (bin_lss w).trans (by rw [hb18]))) ?_
   intro a hA
   refine seq_end ?_
   refine hK17 _ _ ?_
   refine wp_seq_k (fun K19 hK19 => ?_)
   refine wp_cond_true (hA.ev rfl) ?_
   refine wp_skip ?_
   refine hK19 _ _ ?_
   refine wp_seq_k (fun K20 hK20 => ?_)
   refine wp_block ?_
   refine wp_seq_k (fun K21 hK21 => ?_)
   obtain ⟨gr, hgr⟩ := row_someH (hM.has 4 rfl) (show rs.length ≠ 0 by omega)
   obtain ⟨z, hz⟩ : ∃ z, rs[i0]? = some z := ⟨_, List.getElem?_eq_getElem (show i0 < rs.length by omega)⟩
   refine wp_region_lit ?_
   refine seq_do (v := .pointer (some ⟨gr, i0 * 1, none⟩)) hA rfl rfl rfl (does_ixO (k := i0) Try.underlying33 (by kernel_rfl) rfl rfl rfl hgr (by omega)) ?_
   intro a hA
   refine seq_do (v := .int .i64 z) hA rfl rfl rfl (m_ldO1 (j := i0 * 1) hM 4 rfl hgr (by rw [Nat.mul_one]; exact intC_at hz) HbF_is1_3 rfl) ?_
   intro a hA
   refine seq_do hA rfl rfl rfl (does_assign rfl) ?_
   intro a hA
   refine seq_end ?_
   refine hK21 _ _ ?_
   refine wp_region_lit ?_
   refine seq_do hA rfl rfl rfl (does_move rfl) ?_
   intro a hA
   refine seq_do hA rfl rfl rfl (does_move rfl) ?_
   intro a hA
   replace hM : Mg w0 w14 (.row 3 1 (.slice wo0 ws0.length wc0) ws0.length (intC ws0) :: .obj h (.cells #[.map (some m), .int .i64 (((last : Nat) : Int)), .int .i64 (((ss : Nat) : Int)), .slice sg gs.length sc, .int .i64 (((ls : Nat) : Int)), .slice lg gl.length lc] 73) :: .obj m (mapO (os.map Ob.en) last) :: .row 96 2 (.slice sg gs.length sc) gs.length (gapC gs) :: .row 96 2 (.slice lg gl.length lc) gl.length (gapC gl) :: .row 3 1 (.slice ro rs.length rc) rs.length (intC rs) :: .obj g5 (.cells #[.map (some g3)] 87) :: .obj g9 (.cells #[.slice wo0 ws0.length wc0] 33) :: .obj g3 (mapO (mkE 0 ws0) ws0.length) :: (os.map Ob.row ++ X)) := hM.bring 8 rfl rfl
   replace hM : Mg w0 w14 (.obj g3 (mapO (mkE 0 ws0) ws0.length) :: .row 3 1 (.slice wo0 ws0.length wc0) ws0.length (intC ws0) :: .obj h (.cells #[.map (some m), .int .i64 (((last : Nat) : Int)), .int .i64 (((ss : Nat) : Int)), .slice sg gs.length sc, .int .i64 (((ls : Nat) : Int)), .slice lg gl.length lc] 73) :: .obj m (mapO (os.map Ob.en) last) :: .row 96 2 (.slice sg gs.length sc) gs.length (gapC gs) :: .row 96 2 (.slice lg gl.length lc) gl.length (gapC gl) :: .row 3 1 (.slice ro rs.length rc) rs.length (intC rs) :: .obj g5 (.cells #[.map (some g3)] 87) :: .obj g9 (.cells #[.slice wo0 ws0.length wc0] 33) :: (os.map Ob.row ++ X)) := hM.bring 8 rfl rfl
   replace hM : Mg w0 w14 (.obj g9 (.cells #[.slice wo0 ws0.length wc0] 33) :: .obj g3 (mapO (mkE 0 ws0) ws0.length) :: .row 3 1 (.slice wo0 ws0.length wc0) ws0.length (intC ws0) :: .obj h (.cells #[.map (some m), .int .i64 (((last : Nat) : Int)), .int .i64 (((ss : Nat) : Int)), .slice sg gs.length sc, .int .i64 (((ls : Nat) : Int)), .slice lg gl.length lc] 73) :: .obj m (mapO (os.map Ob.en) last) :: .row 96 2 (.slice sg gs.length sc) gs.length (gapC gs) :: .row 96 2 (.slice lg gl.length lc) gl.length (gapC gl) :: .row 3 1 (.slice ro rs.length rc) rs.length (intC rs) :: .obj g5 (.cells #[.map (some g3)] 87) :: (os.map Ob.row ++ X)) := hM.bring 8 rfl rfl
   replace hM : Mg w0 w14 (.obj g5 (.cells #[.map (some g3)] 87) :: .obj g9 (.cells #[.slice wo0 ws0.length wc0] 33) :: .obj g3 (mapO (mkE 0 ws0) ws0.length) :: .row 3 1 (.slice wo0 ws0.length wc0) ws0.length (intC ws0) :: .obj h (.cells #[.map (some m), .int .i64 (((last : Nat) : Int)), .int .i64 (((ss : Nat) : Int)), .slice sg gs.length sc, .int .i64 (((ls : Nat) : Int)), .slice lg gl.length lc] 73) :: .obj m (mapO (os.map Ob.en) last) :: .row 96 2 (.slice sg gs.length sc) gs.length (gapC gs) :: .row 96 2 (.slice lg gl.length lc) gl.length (gapC gl) :: .row 3 1 (.slice ro rs.length rc) rs.length (intC rs) :: (os.map Ob.row ++ X)) := hM.bring 8 rfl rfl
   refine seq_call hA rfl rfl rfl (enters_fn rfl rfl (fun us w => by kernel_rfl)) (visit_any (x := z) (by omega) hM) ?_
   rintro _ w25 ⟨wo22, wc23, rfl, hM24⟩
   replace hM : Mg w0 w25 (.obj g5 (.cells #[.map (some g3)] 87) :: .obj g9 (.cells #[.slice wo22 ((vis ws0 z).length) wc23] 33) :: .obj g3 (mapO (mkE 0 (vis ws0 z)) ((vis ws0 z).length)) :: .row 3 1 (.slice wo22 ((vis ws0 z).length) wc23) ((vis ws0 z).length) (intC (vis ws0 z)) :: .obj h (.cells #[.map (some m), .int .i64 (((last : Nat) : Int)), .int .i64 (((ss : Nat) : Int)), .slice sg gs.length sc, .int .i64 (((ls : Nat) : Int)), .slice lg gl.length lc] 73) :: .obj m (mapO (os.map Ob.en) last) :: .row 96 2 (.slice sg gs.length sc) gs.length (gapC gs) :: .row 96 2 (.slice lg gl.length lc) gl.length (gapC gl) :: .row 3 1 (.slice ro rs.length rc) rs.length (intC rs) :: (os.map Ob.row ++ X)) := hM24
   refine ⟨_, rfl, ?_⟩
   intro a hA
   refine seq_end ?_
   refine hK20 _ _ ?_
   refine wp_region_lit ?_
   refine seq_do (v := .int .i64 (((i0 + 1 : Nat) : Int))) hA rfl rfl rfl (does_bin rfl rfl (ar_add ((in_i64 (by omega) (by omega)).trans (by omega)))) ?_
   intro a hA
   refine seq_do hA rfl rfl rfl (does_move rfl) ?_
   intro a hA
   refine seq_end ?_
   replace hM : Mg w0 w25 (.row 3 1 (.slice wo22 ((vis ws0 z).length) wc23) ((vis ws0 z).length) (intC (vis ws0 z)) :: .obj g5 (.cells #[.map (some g3)] 87) :: .obj g9 (.cells #[.slice wo22 ((vis ws0 z).length) wc23] 33) :: .obj g3 (mapO (mkE 0 (vis ws0 z)) ((vis ws0 z).length)) :: .obj h (.cells #[.map (some m), .int .i64 (((last : Nat) : Int)), .int .i64 (((ss : Nat) : Int)), .slice sg gs.length sc, .int .i64 (((ls : Nat) : Int)), .slice lg gl.length lc] 73) :: .obj m (mapO (os.map Ob.en) last) :: .row 96 2 (.slice sg gs.length sc) gs.length (gapC gs) :: .row 96 2 (.slice lg gl.length lc) gl.length (gapC gl) :: .row 3 1 (.slice ro rs.length rc) rs.length (intC rs) :: (os.map Ob.row ++ X)) := hM.bring 3 rfl rfl
   replace hM : Mg w0 w25 (.obj g3 (mapO (mkE 0 (vis ws0 z)) ((vis ws0 z).length)) :: .row 3 1 (.slice wo22 ((vis ws0 z).length) wc23) ((vis ws0 z).length) (intC (vis ws0 z)) :: .obj g5 (.cells #[.map (some g3)] 87) :: .obj g9 (.cells #[.slice wo22 ((vis ws0 z).length) wc23] 33) :: .obj h (.cells #[.map (some m), .int .i64 (((last : Nat) : Int)), .int .i64 (((ss : Nat) : Int)), .slice sg gs.length sc, .int .i64 (((ls : Nat) : Int)), .slice lg gl.length lc] 73) :: .obj m (mapO (os.map Ob.en) last) :: .row 96 2 (.slice sg gs.length sc) gs.length (gapC gs) :: .row 96 2 (.slice lg gl.length lc) gl.length (gapC gl) :: .row 3 1 (.slice ro rs.length rc) rs.length (intC rs) :: (os.map Ob.row ++ X)) := hM.bring 3 rfl rfl
   replace hM : Mg w0 w25 (.obj g9 (.cells #[.slice wo22 ((vis ws0 z).length) wc23] 33) :: .obj g3 (mapO (mkE 0 (vis ws0 z)) ((vis ws0 z).length)) :: .row 3 1 (.slice wo22 ((vis ws0 z).length) wc23) ((vis ws0 z).length) (intC (vis ws0 z)) :: .obj g5 (.cells #[.map (some g3)] 87) :: .obj h (.cells #[.map (some m), .int .i64 (((last : Nat) : Int)), .int .i64 (((ss : Nat) : Int)), .slice sg gs.length sc, .int .i64 (((ls : Nat) : Int)), .slice lg gl.length lc] 73) :: .obj m (mapO (os.map Ob.en) last) :: .row 96 2 (.slice sg gs.length sc) gs.length (gapC gs) :: .row 96 2 (.slice lg gl.length lc) gl.length (gapC gl) :: .row 3 1 (.slice ro rs.length rc) rs.length (intC rs) :: (os.map Ob.row ++ X)) := hM.bring 3 rfl rfl
   replace hM : Mg w0 w25 (.obj g5 (.cells #[.map (some g3)] 87) :: .obj g9 (.cells #[.slice wo22 ((vis ws0 z).length) wc23] 33) :: .obj g3 (mapO (mkE 0 (vis ws0 z)) ((vis ws0 z).length)) :: .row 3 1 (.slice wo22 ((vis ws0 z).length) wc23) ((vis ws0 z).length) (intC (vis ws0 z)) :: .obj h (.cells #[.map (some m), .int .i64 (((last : Nat) : Int)), .int .i64 (((ss : Nat) : Int)), .slice sg gs.length sc, .int .i64 (((ls : Nat) : Int)), .slice lg gl.length lc] 73) :: .obj m (mapO (os.map Ob.en) last) :: .row 96 2 (.slice sg gs.length sc) gs.length (gapC gs) :: .row 96 2 (.slice lg gl.length lc) gl.length (gapC gl) :: .row 3 1 (.slice ro rs.length rc) rs.length (intC rs) :: (os.map Ob.row ++ X)) := hM.bring 3 rfl rfl
   replace hM : Mg w0 w25 (.row 3 1 (.slice ro rs.length rc) rs.length (intC rs) :: .obj g5 (.cells #[.map (some g3)] 87) :: .obj g9 (.cells #[.slice wo22 ((vis ws0 z).length) wc23] 33) :: .obj g3 (mapO (mkE 0 (vis ws0 z)) ((vis ws0 z).length)) :: .row 3 1 (.slice wo22 ((vis ws0 z).length) wc23) ((vis ws0 z).length) (intC (vis ws0 z)) :: .obj h (.cells #[.map (some m), .int .i64 (((last : Nat) : Int)), .int .i64 (((ss : Nat) : Int)), .slice sg gs.length sc, .int .i64 (((ls : Nat) : Int)), .slice lg gl.length lc] 73) :: .obj m (mapO (os.map Ob.en) last) :: .row 96 2 (.slice sg gs.length sc) gs.length (gapC gs) :: .row 96 2 (.slice lg gl.length lc) gl.length (gapC gl) :: (os.map Ob.row ++ X)) := hM.bring 8 rfl rfl
   replace hM : Mg w0 w25 (.row 96 2 (.slice lg gl.length lc) gl.length (gapC gl) :: .row 3 1 (.slice ro rs.length rc) rs.length (intC rs) :: .obj g5 (.cells #[.map (some g3)] 87) :: .obj g9 (.cells #[.slice wo22 ((vis ws0 z).length) wc23] 33) :: .obj g3 (mapO (mkE 0 (vis ws0 z)) ((vis ws0 z).length)) :: .row 3 1 (.slice wo22 ((vis ws0 z).length) wc23) ((vis ws0 z).length) (intC (vis ws0 z)) :: .obj h (.cells #[.map (some m), .int .i64 (((last : Nat) : Int)), .int .i64 (((ss : Nat) : Int)), .slice sg gs.length sc, .int .i64 (((ls : Nat) : Int)), .slice lg gl.length lc] 73) :: .obj m (mapO (os.map Ob.en) last) :: .row 96 2 (.slice sg gs.length sc) gs.length (gapC gs) :: (os.map Ob.row ++ X)) := hM.bring 8 rfl rfl
   replace hM : Mg w0 w25 (.row 96 2 (.slice sg gs.length sc) gs.length (gapC gs) :: .row 96 2 (.slice lg gl.length lc) gl.length (gapC gl) :: .row 3 1 (.slice ro rs.length rc) rs.length (intC rs) :: .obj g5 (.cells #[.map (some g3)] 87) :: .obj g9 (.cells #[.slice wo22 ((vis ws0 z).length) wc23] 33) :: .obj g3 (mapO (mkE 0 (vis ws0 z)) ((vis ws0 z).length)) :: .row 3 1 (.slice wo22 ((vis ws0 z).length) wc23) ((vis ws0 z).length) (intC (vis ws0 z)) :: .obj h (.cells #[.map (some m), .int .i64 (((last : Nat) : Int)), .int .i64 (((ss : Nat) : Int)), .slice sg gs.length sc, .int .i64 (((ls : Nat) : Int)), .slice lg gl.length lc] 73) :: .obj m (mapO (os.map Ob.en) last) :: (os.map Ob.row ++ X)) := hM.bring 8 rfl rfl
   replace hM : Mg w0 w25 (.obj m (mapO (os.map Ob.en) last) :: .row 96 2 (.slice sg gs.length sc) gs.length (gapC gs) :: .row 96 2 (.slice lg gl.length lc) gl.length (gapC gl) :: .row 3 1 (.slice ro rs.length rc) rs.length (intC rs) :: .obj g5 (.cells #[.map (some g3)] 87) :: .obj g9 (.cells #[.slice wo22 ((vis ws0 z).length) wc23] 33) :: .obj g3 (mapO (mkE 0 (vis ws0 z)) ((vis ws0 z).length)) :: .row 3 1 (.slice wo22 ((vis ws0 z).length) wc23) ((vis ws0 z).length) (intC (vis ws0 z)) :: .obj h (.cells #[.map (some m), .int .i64 (((last : Nat) : Int)), .int .i64 (((ss : Nat) : Int)), .slice sg gs.length sc, .int .i64 (((ls : Nat) : Int)), .slice lg gl.length lc] 73) :: (os.map Ob.row ++ X)) := hM.bring 8 rfl rfl
   replace hM : Mg w0 w25 (.obj h (.cells #[.map (some m), .int .i64 (((last : Nat) : Int)), .int .i64 (((ss : Nat) : Int)), .slice sg gs.length sc, .int .i64 (((ls : Nat) : Int)), .slice lg gl.length lc] 73) :: .obj m (mapO (os.map Ob.en) last) :: .row 96 2 (.slice sg gs.length sc) gs.length (gapC gs) :: .row 96 2 (.slice lg gl.length lc) gl.length (gapC gl) :: .row 3 1 (.slice ro rs.length rc) rs.length (intC rs) :: .obj g5 (.cells #[.map (some g3)] 87) :: .obj g9 (.cells #[.slice wo22 ((vis ws0 z).length) wc23] 33) :: .obj g3 (mapO (mkE 0 (vis ws0 z)) ((vis ws0 z).length)) :: .row 3 1 (.slice wo22 ((vis ws0 z).length) wc23) ((vis ws0 z).length) (intC (vis ws0 z)) :: (os.map Ob.row ++ X)) := hM.bring 8 rfl rfl
   refine hK15 _ _ _ (by omega) ⟨i0 + 1, (vis ws0 z), wo22, wc23, rfl, ⟨by omega, hV0.vis (hrs z (List.mem_of_getElem? hz)) (fun k => .root (List.mem_of_getElem? hz) k), take_root hz hR0⟩, hA.keep _ ⟨rfl, rfl, rfl, rfl, rfl, rfl, rfl, rfl, rfl, rfl, rfl, trivial⟩, hM⟩
 · have hb18' := of_decide_eq_false hb18
   refine seq_do (v := .bool false) hA rfl rfl rfl (does_bin rfl rfl (fun w => (bin_lss w).trans (by rw [hb18]))) ?_
   intro a hA
   refine seq_end ?_
   refine hK17 _ _ ?_
   refine wp_seq_k (fun K26 hK26 => ?_)
   refine wp_cond_false (hA.ev rfl) ?_
   refine wp_exit ?_
   refine hK12 _ _ ?_
   refine wp_seq_k (fun K27 hK27 => ?_)
   refine wp_seq_k (fun K28 hK28 => ?_)
   refine wp_region_lit ?_
   refine seq_do hA rfl rfl rfl (does_assign rfl) ?_
   intro a hA
   refine seq_end ?_
   refine hK28 _ _ ?_
   refine wp_block ?_
   refine wp_loop_n (fun m_ a w1 => ∃ (i : Nat) (ws : List Int) (wo : Option Addr) (wc : Nat), m_ = 1 + (os.length - i) ∧ (i ≤ ws.length ∧ Vs os rs ws ∧ (∀ r ∈ rs, r ≠ 0 → r ∈ ws) ∧ Shut os ws i) ∧ Sl a 54 [(0, .pointer (some ⟨h, 0, none⟩)), (1, .slice ro rs.length rc), (4, .map none), (5, .pointer (some ⟨g5, 0, none⟩)), (6, .pointer (some ⟨g9, 0, none⟩)), (7, .func (.func 49) #[] [.pointer (some ⟨g5, 0, none⟩), .pointer (some ⟨g9, 0, none⟩)].toArray), (10, .int .i64 (((i : Nat) : Int))), (13, .map (some g3)), (14, .func (.func 49) #[] [.pointer (some ⟨g5, 0, none⟩), .pointer (some ⟨g9, 0, none⟩)].toArray), (15, .slice ro rs.length rc), (16, .int .i64 (((rs.length : Nat) : Int))), (17, .int .i64 (((i0 : Nat) : Int))), (18, .bool false)] ∧ Mg w0 w1 (.obj h (.cells #[.map (some m), .int .i64 (((last : Nat) : Int)), .int .i64 (((ss : Nat) : Int)), .slice sg gs.length sc, .int .i64 (((ls : Nat) : Int)), .slice lg gl.length lc] 73) :: .obj m (mapO (os.map Ob.en) last) :: .row 96 2 (.slice sg gs.length sc) gs.length (gapC gs) :: .row 96 2 (.slice lg gl.length lc) gl.length (gapC gl) :: .row 3 1 (.slice ro rs.length rc) rs.length (intC rs) :: .obj g5 (.cells #[.map (some g3)] 87) :: .obj g9 (.cells #[.slice wo ws.length wc] 33) :: .obj g3 (mapO (mkE 0 ws) ws.length) :: .row 3 1 (.slice wo ws.length wc) ws.length (intC ws) :: (os.map Ob.row ++ X))) _ ⟨0, ws0, wo0, wc0, rfl, ⟨Nat.zero_le _, hV0, (by rw [List.take_of_length_le (by omega)] at hR0; exact hR0), fun k x o hk => absurd hk (Nat.not_lt_zero _)⟩, hA.keep _ ⟨rfl, rfl, rfl, rfl, rfl, rfl, rfl, rfl, rfl, rfl, rfl, rfl, rfl, trivial⟩, hM⟩ ?_
   clear hM hA
   rintro m_ a w29 ⟨i, ws, wo, wc, rfl, hinv31, hA, hM⟩ K30 hK30
   obtain ⟨hi0, hV, hR, hS⟩ := hinv31
   have hwl := hV.len
   refine wp_seq_k (fun K32 hK32 => ?_)
   refine wp_seq_k (fun K33 hK33 => ?_)
   refine wp_region_lit ?_
   refine seq_do hA rfl rfl rfl (does_move rfl) ?_
   intro a hA
   refine seq_do hA rfl rfl rfl (m_load1 hM HbF_is1_33 rfl 6 rfl rfl) ?_
   intro a hA
   refine seq_do (v := .int .i64 (((ws.length : Nat) : Int))) hA rfl rfl rfl (does_len Try.underlying33 rfl) ?_
   intro a hA
   rcases Bool.eq_false_or_eq_true (decide (((i : Nat) : Int) < ((ws.length : Nat) : Int))) with hb34 | hb34
   · have hb34' := of_decide_eq_true hb34
     refine seq_do (v := .bool true) hA rfl rfl rfl (does_bin rfl rfl (fun w => (bin_lss w).trans (by rw [hb34]))) ?_
     intro a hA
     refine seq_end ?_
     refine hK33 _ _ ?_
     refine wp_cond_true (hA.ev rfl) ?_
     refine wp_skip ?_
     refine hK32 _ _ ?_
     refine wp_seq_k (fun K35 hK35 => ?_)
     refine wp_block ?_
     refine wp_seq_k (fun K36 hK36 => ?_)
     obtain ⟨gw, hgw⟩ := row_someH (hM.has 8 rfl) (show ws.length ≠ 0 by omega)
     obtain ⟨z, hz⟩ : ∃ z, ws[i]? = some z := ⟨_, List.getElem?_eq_getElem (show i < ws.length by omega)⟩
     have hzm := List.mem_of_getElem? hz
     have hzo := hV.ob z hzm
     obtain ⟨o, ho⟩ := Option.isSome_iff_exists.1 hzo
     have hom := (fO_mem ho).1
     have hol := hcl o hom
     refine wp_draw (S := fun w1 => Mg w0 w1 (.obj h (.cells #[.map (some m), .int .i64 (((last : Nat) : Int)), .int .i64 (((ss : Nat) : Int)), .slice sg gs.length sc, .int .i64 (((ls : Nat) : Int)), .slice lg gl.length lc] 73) :: .obj g9 (.cells #[.slice wo ws.length wc] 33) :: .row 3 1 (.slice wo ws.length wc) ws.length (intC ws) :: [])) (by kernel_rfl) ?_
     replace hM := hM.drew
     refine any_tk hA 0 rfl rfl rfl rfl hP (hM.sub (.cons_cons _ (.cons _ (.cons _ (.cons _ (.cons _ (.cons _ (.cons_cons _ (.cons _ (.cons_cons _ (List.nil_sublist _))))))))))) (fun w1 hM => does_move rfl) ?_
     intro a hA
     refine any_tk hA 1 rfl rfl rfl rfl hP (hM.sub (.cons_cons _ (.cons _ (.cons _ (.cons _ (.cons _ (.cons _ (.cons_cons _ (.cons _ (.cons_cons _ (List.nil_sublist _))))))))))) (fun w1 hM => does_nilq rfl) ?_
     intro a hA
     refine any_tk (v := .pointer (some ⟨h, 0, none⟩)) hA 2 rfl rfl rfl rfl hP (hM.sub (.cons_cons _ (.cons _ (.cons _ (.cons _ (.cons _ (.cons _ (.cons_cons _ (.cons _ (.cons_cons _ (List.nil_sublist _))))))))))) (fun w1 hM => does_field HbF_fld_73_0 rfl rfl) ?_
     intro a hA
     refine any_tk hA 3 rfl rfl rfl rfl hP (hM.sub (.cons_cons _ (.cons _ (.cons _ (.cons _ (.cons _ (.cons _ (.cons_cons _ (.cons _ (.cons_cons _ (List.nil_sublist _))))))))))) (fun w1 hM => m_load1 hM HbF_is1_67 rfl 0 rfl rfl) ?_
     intro a hA
     refine any_tk hA 4 rfl rfl rfl rfl hP (hM.sub (.cons_cons _ (.cons _ (.cons _ (.cons _ (.cons _ (.cons _ (.cons_cons _ (.cons _ (.cons_cons _ (List.nil_sublist _))))))))))) (fun w1 hM => m_load1 hM HbF_is1_33 rfl 1 rfl rfl) ?_
     intro a hA
     refine any_tk hA 5 rfl rfl rfl rfl hP (hM.sub (.cons_cons _ (.cons _ (.cons _ (.cons _ (.cons _ (.cons _ (.cons_cons _ (.cons _ (.cons_cons _ (List.nil_sublist _))))))))))) (fun w1 hM => does_move rfl) ?_
     intro a hA
     refine any_tk (v := .pointer (some ⟨gw, i * 1, none⟩)) hA 6 rfl rfl rfl rfl hP (hM.sub (.cons_cons _ (.cons _ (.cons _ (.cons _ (.cons _ (.cons _ (.cons_cons _ (.cons _ (.cons_cons _ (List.nil_sublist _))))))))))) (fun w1 hM => does_ixO (k := i) Try.underlying33 (by kernel_rfl) rfl rfl rfl hgw (by omega)) ?_
     intro a hA
     refine any_tk (v := .int .i64 z) hA 7 rfl rfl rfl rfl hP (hM.sub (.cons_cons _ (.cons _ (.cons _ (.cons _ (.cons _ (.cons _ (.cons_cons _ (.cons _ (.cons_cons _ (List.nil_sublist _))))))))))) (fun w1 hM => m_ldO1 (j := i * 1) hM 2 rfl hgw (by rw [Nat.mul_one]; exact intC_at hz) HbF_is1_3 rfl) ?_
     intro a hA
     refine any_tk hA 11 rfl rfl rfl rfl hP (hM.sub (.cons_cons _ (.cons _ (.cons _ (.cons _ (.cons _ (.cons _ (.cons_cons _ (.cons _ (.cons_cons _ (List.nil_sublist _))))))))))) (fun w1 hM => does_move rfl) ?_
     intro a hA
     have hok : atK z (os.map Ob.en) = some o.en := by rw [atK_en, ho]; rfl
     refine any_one (by kernel_rfl) (op_do (v := .agg #[.int .i64 (((o.p : Nat) : Int)), .slice (some ⟨o.g, 0, none⟩) o.ws.length o.c]) hA 8 rfl rfl rfl rfl (m_lookY hM Try.underlying67 Try.underlying3 rfl rfl 1 rfl hok rfl) (hM.sub (.cons_cons _ (.cons _ (.cons _ (.cons _ (.cons _ (.cons _ (.cons_cons _ (.cons _ (.cons_cons _ (List.nil_sublist _))))))))))) ?_)
     intro a hA
     refine any_tk (v := .slice (some ⟨o.g, 0, none⟩) o.ws.length o.c) hA 9 rfl rfl rfl rfl hP (hM.sub (.cons_cons _ (.cons _ (.cons _ (.cons _ (.cons _ (.cons _ (.cons_cons _ (.cons _ (.cons_cons _ (List.nil_sublist _))))))))))) (fun w1 hM => does_fld (off := 1) (cs := [.int .i64 (((o.p : Nat) : Int)), .slice (some ⟨o.g, 0, none⟩) o.ws.length o.c]) ⟨_, _, Try.underlying79, rfl, rfl, HbF_is1_59⟩ rfl rfl) ?_
     intro a hA
     refine any_tk (v := .int .i64 (((o.ws.length : Nat) : Int))) hA 10 rfl rfl rfl rfl hP (hM.sub (.cons_cons _ (.cons _ (.cons _ (.cons _ (.cons _ (.cons _ (.cons_cons _ (.cons _ (.cons_cons _ (List.nil_sublist _))))))))))) (fun w1 hM => does_len Try.underlying59 rfl) ?_
     intro a hA
     refine any_end (by kernel_rfl) ?_
     refine hK36 _ _ ?_
     refine wp_block ?_
     replace hM : Mg w0 w29.drew (.row 3 1 (.slice wo ws.length wc) ws.length (intC ws) :: .obj h (.cells #[.map (some m), .int .i64 (((last : Nat) : Int)), .int .i64 (((ss : Nat) : Int)), .slice sg gs.length sc, .int .i64 (((ls : Nat) : Int)), .slice lg gl.length lc] 73) :: .obj m (mapO (os.map Ob.en) last) :: .row 96 2 (.slice sg gs.length sc) gs.length (gapC gs) :: .row 96 2 (.slice lg gl.length lc) gl.length (gapC gl) :: .row 3 1 (.slice ro rs.length rc) rs.length (intC rs) :: .obj g5 (.cells #[.map (some g3)] 87) :: .obj g9 (.cells #[.slice wo ws.length wc] 33) :: .obj g3 (mapO (mkE 0 ws) ws.length) :: (os.map Ob.row ++ X)) := hM.bring 8 rfl rfl
     replace hM : Mg w0 w29.drew (.obj g3 (mapO (mkE 0 ws) ws.length) :: .row 3 1 (.slice wo ws.length wc) ws.length (intC ws) :: .obj h (.cells #[.map (some m), .int .i64 (((last : Nat) : Int)), .int .i64 (((ss : Nat) : Int)), .slice sg gs.length sc, .int .i64 (((ls : Nat) : Int)), .slice lg gl.length lc] 73) :: .obj m (mapO (os.map Ob.en) last) :: .row 96 2 (.slice sg gs.length sc) gs.length (gapC gs) :: .row 96 2 (.slice lg gl.length lc) gl.length (gapC gl) :: .row 3 1 (.slice ro rs.length rc) rs.length (intC rs) :: .obj g5 (.cells #[.map (some g3)] 87) :: .obj g9 (.cells #[.slice wo ws.length wc] 33) :: (os.map Ob.row ++ X)) := hM.bring 8 rfl rfl
     replace hM : Mg w0 w29.drew (.obj g9 (.cells #[.slice wo ws.length wc] 33) :: .obj g3 (mapO (mkE 0 ws) ws.length) :: .row 3 1 (.slice wo ws.length wc) ws.length (intC ws) :: .obj h (.cells #[.map (some m), .int .i64 (((last : Nat) : Int)), .int .i64 (((ss : Nat) : Int)), .slice sg gs.length sc, .int .i64 (((ls : Nat) : Int)), .slice lg gl.length lc] 73) :: .obj m (mapO (os.map Ob.en) last) :: .row 96 2 (.slice sg gs.length sc) gs.length (gapC gs) :: .row 96 2 (.slice lg gl.length lc) gl.length (gapC gl) :: .row 3 1 (.slice ro rs.length rc) rs.length (intC rs) :: .obj g5 (.cells #[.map (some g3)] 87) :: (os.map Ob.row ++ X)) := hM.bring 8 rfl rfl
     replace hM : Mg w0 w29.drew (.obj g5 (.cells #[.map (some g3)] 87) :: .obj g9 (.cells #[.slice wo ws.length wc] 33) :: .obj g3 (mapO (mkE 0 ws) ws.length) :: .row 3 1 (.slice wo ws.length wc) ws.length (intC ws) :: .obj h (.cells #[.map (some m), .int .i64 (((last : Nat) : Int)), .int .i64 (((ss : Nat) : Int)), .slice sg gs.length sc, .int .i64 (((ls : Nat) : Int)), .slice lg gl.length lc] 73) :: .obj m (mapO (os.map Ob.en) last) :: .row 96 2 (.slice sg gs.length sc) gs.length (gapC gs) :: .row 96 2 (.slice lg gl.length lc) gl.length (gapC gl) :: .row 3 1 (.slice ro rs.length rc) rs.length (intC rs) :: (os.map Ob.row ++ X)) := hM.bring 8 rfl rfl
     replace hM : Mg w0 w29.drew (.row 3 1 (.slice ro rs.length rc) rs.length (intC rs) :: .obj g5 (.cells #[.map (some g3)] 87) :: .obj g9 (.cells #[.slice wo ws.length wc] 33) :: .obj g3 (mapO (mkE 0 ws) ws.length) :: .row 3 1 (.slice wo ws.length wc) ws.length (intC ws) :: .obj h (.cells #[.map (some m), .int .i64 (((last : Nat) : Int)), .int .i64 (((ss : Nat) : Int)), .slice sg gs.length sc, .int .i64 (((ls : Nat) : Int)), .slice lg gl.length lc] 73) :: .obj m (mapO (os.map Ob.en) last) :: .row 96 2 (.slice sg gs.length sc) gs.length (gapC gs) :: .row 96 2 (.slice lg gl.length lc) gl.length (gapC gl) :: (os.map Ob.row ++ X)) := hM.bring 8 rfl rfl
     replace hM : Mg w0 w29.drew (.row 96 2 (.slice lg gl.length lc) gl.length (gapC gl) :: .row 3 1 (.slice ro rs.length rc) rs.length (intC rs) :: .obj g5 (.cells #[.map (some g3)] 87) :: .obj g9 (.cells #[.slice wo ws.length wc] 33) :: .obj g3 (mapO (mkE 0 ws) ws.length) :: .row 3 1 (.slice wo ws.length wc) ws.length (intC ws) :: .obj h (.cells #[.map (some m), .int .i64 (((last : Nat) : Int)), .int .i64 (((ss : Nat) : Int)), .slice sg gs.length sc, .int .i64 (((ls : Nat) : Int)), .slice lg gl.length lc] 73) :: .obj m (mapO (os.map Ob.en) last) :: .row 96 2 (.slice sg gs.length sc) gs.length (gapC gs) :: (os.map Ob.row ++ X)) := hM.bring 8 rfl rfl
     replace hM : Mg w0 w29.drew (.row 96 2 (.slice sg gs.length sc) gs.length (gapC gs) :: .row 96 2 (.slice lg gl.length lc) gl.length (gapC gl) :: .row 3 1 (.slice ro rs.length rc) rs.length (intC rs) :: .obj g5 (.cells #[.map (some g3)] 87) :: .obj g9 (.cells #[.slice wo ws.length wc] 33) :: .obj g3 (mapO (mkE 0 ws) ws.length) :: .row 3 1 (.slice wo ws.length wc) ws.length (intC ws) :: .obj h (.cells #[.map (some m), .int .i64 (((last : Nat) : Int)), .int .i64 (((ss : Nat) : Int)), .slice sg gs.length sc, .int .i64 (((ls : Nat) : Int)), .slice lg gl.length lc] 73) :: .obj m (mapO (os.map Ob.en) last) :: (os.map Ob.row ++ X)) := hM.bring 8 rfl rfl
     replace hM : Mg w0 w29.drew (.obj m (mapO (os.map Ob.en) last) :: .row 96 2 (.slice sg gs.length sc) gs.length (gapC gs) :: .row 96 2 (.slice lg gl.length lc) gl.length (gapC gl) :: .row 3 1 (.slice ro rs.length rc) rs.length (intC rs) :: .obj g5 (.cells #[.map (some g3)] 87) :: .obj g9 (.cells #[.slice wo ws.length wc] 33) :: .obj g3 (mapO (mkE 0 ws) ws.length) :: .row 3 1 (.slice wo ws.length wc) ws.length (intC ws) :: .obj h (.cells #[.map (some m), .int .i64 (((last : Nat) : Int)), .int .i64 (((ss : Nat) : Int)), .slice sg gs.length sc, .int .i64 (((ls : Nat) : Int)), .slice lg gl.length lc] 73) :: (os.map Ob.row ++ X)) := hM.bring 8 rfl rfl
     replace hM : Mg w0 w29.drew (.obj h (.cells #[.map (some m), .int .i64 (((last : Nat) : Int)), .int .i64 (((ss : Nat) : Int)), .slice sg gs.length sc, .int .i64 (((ls : Nat) : Int)), .slice lg gl.length lc] 73) :: .obj m (mapO (os.map Ob.en) last) :: .row 96 2 (.slice sg gs.length sc) gs.length (gapC gs) :: .row 96 2 (.slice lg gl.length lc) gl.length (gapC gl) :: .row 3 1 (.slice ro rs.length rc) rs.length (intC rs) :: .obj g5 (.cells #[.map (some g3)] 87) :: .obj g9 (.cells #[.slice wo ws.length wc] 33) :: .obj g3 (mapO (mkE 0 ws) ws.length) :: .row 3 1 (.slice wo ws.length wc) ws.length (intC ws) :: (os.map Ob.row ++ X)) := hM.bring 8 rfl rfl
     refine wp_loop_n (fun m_ a w1 => ∃ (j : Nat) (ws1 : List Int) (wo1 : Option Addr) (wc1 : Nat), m_ = 1 + (o.ws.length - j) ∧ (j ≤ o.ws.length ∧ Vs os rs ws1 ∧ (∀ r ∈ rs, r ≠ 0 → r ∈ ws1) ∧ Shut os ws1 i ∧ ws1[i]? = some z ∧ ∀ y, (y, true) ∈ o.ws.take j → y ≠ 0 → y ∈ ws1) ∧ Sl a 54 [(0, .pointer (some ⟨h, 0, none⟩)), (1, .slice ro rs.length rc), (4, .map none), (5, .pointer (some ⟨g5, 0, none⟩)), (6, .pointer (some ⟨g9, 0, none⟩)), (7, .func (.func 49) #[] [.pointer (some ⟨g5, 0, none⟩), .pointer (some ⟨g9, 0, none⟩)].toArray), (10, .int .i64 (((i : Nat) : Int))), (13, .map (some g3)), (14, .func (.func 49) #[] [.pointer (some ⟨g5, 0, none⟩), .pointer (some ⟨g9, 0, none⟩)].toArray), (15, .slice ro rs.length rc), (16, .int .i64 (((rs.length : Nat) : Int))), (17, .int .i64 (((i0 : Nat) : Int))), (18, .bool false), (25, .int .i64 (((i : Nat) : Int))), (26, .slice wo ws.length wc), (27, .int .i64 (((ws.length : Nat) : Int))), (28, .bool true), (31, .pointer (some ⟨h, 0, none⟩)), (32, .pointer (some ⟨h, 0, none⟩)), (33, .pointer (some ⟨h, 0, none⟩)), (34, .map (some m)), (35, .slice wo ws.length wc), (36, .int .i64 (((i : Nat) : Int))), (37, .pointer (some ⟨gw, i * 1, none⟩)), (38, .int .i64 z), (39, .agg #[.int .i64 (((o.p : Nat) : Int)), .slice (some ⟨o.g, 0, none⟩) o.ws.length o.c]), (40, .slice (some ⟨o.g, 0, none⟩) o.ws.length o.c), (41, .int .i64 (((o.ws.length : Nat) : Int))), (42, .int .i64 (((j : Nat) : Int)))] ∧ Mg w0 w1 (.obj h (.cells #[.map (some m), .int .i64 (((last : Nat) : Int)), .int .i64 (((ss : Nat) : Int)), .slice sg gs.length sc, .int .i64 (((ls : Nat) : Int)), .slice lg gl.length lc] 73) :: .obj m (mapO (os.map Ob.en) last) :: .row 96 2 (.slice sg gs.length sc) gs.length (gapC gs) :: .row 96 2 (.slice lg gl.length lc) gl.length (gapC gl) :: .row 3 1 (.slice ro rs.length rc) rs.length (intC rs) :: .obj g5 (.cells #[.map (some g3)] 87) :: .obj g9 (.cells #[.slice wo1 ws1.length wc1] 33) :: .obj g3 (mapO (mkE 0 ws1) ws1.length) :: .row 3 1 (.slice wo1 ws1.length wc1) ws1.length (intC ws1) :: (os.map Ob.row ++ X))) _ ⟨0, ws, wo, wc, rfl, ⟨Nat.zero_le _, hV, hR, hS, hz, fun y hy => by simp at hy⟩, hA.keep _ ⟨rfl, rfl, rfl, rfl, rfl, rfl, rfl, rfl, rfl, rfl, rfl, rfl, rfl, rfl, rfl, rfl, rfl, rfl, rfl, rfl, rfl, rfl, rfl, rfl, rfl, rfl, rfl, rfl, rfl, trivial⟩, hM⟩ ?_
     clear hM hA
     rintro m_ a w39 ⟨j, ws1, wo1, wc1, rfl, hinv41, hA, hM⟩ K40 hK40
     obtain ⟨hj0, hV1, hR1, hS1, hz1, hK⟩ := hinv41
     have hwl1 := hV1.len
     refine wp_seq_k (fun K42 hK42 => ?_)
     refine wp_region_lit ?_
     rcases Bool.eq_false_or_eq_true (decide (((j : Nat) : Int) < ((o.ws.length : Nat) : Int))) with hb43 | hb43
     · have hb43' := of_decide_eq_true hb43
       refine seq_do (v := .bool true) hA rfl rfl rfl (does_bin rfl rfl (fun w => (bin_lss w).trans (by rw [hb43]))) ?_
       intro a hA
       refine seq_end ?_
       refine hK42 _ _ ?_
       refine wp_seq_k (fun K44 hK44 => ?_)
       refine wp_cond_true (hA.ev rfl) ?_
       refine wp_skip ?_
       refine hK44 _ _ ?_
       refine wp_seq_k (fun K45 hK45 => ?_)
       refine wp_block ?_
       refine wp_seq_k (fun K46 hK46 => ?_)
       obtain ⟨c1, c2, hc⟩ : ∃ c1 c2, o.ws[j]? = some (c1, c2) := ⟨_, _, List.getElem?_eq_getElem (show j < o.ws.length by omega)⟩
       refine wp_region_lit ?_
       refine seq_do (v := .pointer (some ⟨o.g, j * 2, none⟩)) hA rfl rfl rfl (does_indexE (k := j) Try.underlying59 (by kernel_rfl) rfl rfl rfl (by omega)) ?_
       intro a hA
       refine seq_do hA rfl rfl rfl (m_ldW hM (row_in hom 9 rfl) hc HbF_isS_32 rfl) ?_
       intro a hA
       refine s_new (vs := [.int .i64 0, .bool false]) (t := 32) hA hM rfl rfl rfl (fun g => .pointer (some ⟨g, 0, none⟩)) (does_alloc (z := .agg #[.int .i64 0, .bool false]) (by kernel_rfl) rfl) (by decide) ?_
       intro g47 w48 hM a hA
       refine s_store (us := [.int .i64 c1, .bool c2]) (L' := (.obj g47 (.cells #[.int .i64 c1, .bool c2] 32) :: .obj h (.cells #[.map (some m), .int .i64 (((last : Nat) : Int)), .int .i64 (((ss : Nat) : Int)), .slice sg gs.length sc, .int .i64 (((ls : Nat) : Int)), .slice lg gl.length lc] 73) :: .obj m (mapO (os.map Ob.en) last) :: .row 96 2 (.slice sg gs.length sc) gs.length (gapC gs) :: .row 96 2 (.slice lg gl.length lc) gl.length (gapC gl) :: .row 3 1 (.slice ro rs.length rc) rs.length (intC rs) :: .obj g5 (.cells #[.map (some g3)] 87) :: .obj g9 (.cells #[.slice wo1 ws1.length wc1] 33) :: .obj g3 (mapO (mkE 0 ws1) ws1.length) :: .row 3 1 (.slice wo1 ws1.length wc1) ws1.length (intC ws1) :: (os.map Ob.row ++ X))) hA hM rfl rfl (m_store rfl rfl rfl (by kernel_rfl) hM 0 rfl rfl rfl) 0 rfl rfl rfl ?_
       intro w49 hM
       refine seq_end ?_
       refine hK46 _ _ ?_
       refine wp_seq_k (fun K50 hK50 => ?_)
       refine wp_region_lit ?_
       refine seq_do (v := .pointer (some ⟨g47, 1, none⟩)) hA rfl rfl rfl (does_field HbF_fld_32_1 rfl rfl) ?_
       intro a hA
       refine seq_do hA rfl rfl rfl (m_load1 hM HbF_is1_4 rfl 0 rfl rfl) ?_
       intro a hA
       refine seq_end ?_
       refine hK50 _ _ ?_
       refine wp_cond_split (t := c2) (hA.ev rfl) (fun hc51 => ?_) (fun hc51 => ?_)
       · refine wp_region_lit ?_
         refine seq_do hA rfl rfl rfl (does_move rfl) ?_
         intro a hA
         refine seq_do (v := .pointer (some ⟨g47, 0, none⟩)) hA rfl rfl rfl (does_field HbF_fld_32_0 rfl rfl) ?_
         intro a hA
         refine seq_do hA rfl rfl rfl (m_load1 hM HbF_is1_3 rfl 0 rfl rfl) ?_
         intro a hA
         replace hM : Mg w0 w49 (.row 3 1 (.slice wo1 ws1.length wc1) ws1.length (intC ws1) :: .obj g47 (.cells #[.int .i64 c1, .bool c2] 32) :: .obj h (.cells #[.map (some m), .int .i64 (((last : Nat) : Int)), .int .i64 (((ss : Nat) : Int)), .slice sg gs.length sc, .int .i64 (((ls : Nat) : Int)), .slice lg gl.length lc] 73) :: .obj m (mapO (os.map Ob.en) last) :: .row 96 2 (.slice sg gs.length sc) gs.length (gapC gs) :: .row 96 2 (.slice lg gl.length lc) gl.length (gapC gl) :: .row 3 1 (.slice ro rs.length rc) rs.length (intC rs) :: .obj g5 (.cells #[.map (some g3)] 87) :: .obj g9 (.cells #[.slice wo1 ws1.length wc1] 33) :: .obj g3 (mapO (mkE 0 ws1) ws1.length) :: (os.map Ob.row ++ X)) := hM.bring 9 rfl rfl
         replace hM : Mg w0 w49 (.obj g3 (mapO (mkE 0 ws1) ws1.length) :: .row 3 1 (.slice wo1 ws1.length wc1) ws1.length (intC ws1) :: .obj g47 (.cells #[.int .i64 c1, .bool c2] 32) :: .obj h (.cells #[.map (some m), .int .i64 (((last : Nat) : Int)), .int .i64 (((ss : Nat) : Int)), .slice sg gs.length sc, .int .i64 (((ls : Nat) : Int)), .slice lg gl.length lc] 73) :: .obj m (mapO (os.map Ob.en) last) :: .row 96 2 (.slice sg gs.length sc) gs.length (gapC gs) :: .row 96 2 (.slice lg gl.length lc) gl.length (gapC gl) :: .row 3 1 (.slice ro rs.length rc) rs.length (intC rs) :: .obj g5 (.cells #[.map (some g3)] 87) :: .obj g9 (.cells #[.slice wo1 ws1.length wc1] 33) :: (os.map Ob.row ++ X)) := hM.bring 9 rfl rfl
         replace hM : Mg w0 w49 (.obj g9 (.cells #[.slice wo1 ws1.length wc1] 33) :: .obj g3 (mapO (mkE 0 ws1) ws1.length) :: .row 3 1 (.slice wo1 ws1.length wc1) ws1.length (intC ws1) :: .obj g47 (.cells #[.int .i64 c1, .bool c2] 32) :: .obj h (.cells #[.map (some m), .int .i64 (((last : Nat) : Int)), .int .i64 (((ss : Nat) : Int)), .slice sg gs.length sc, .int .i64 (((ls : Nat) : Int)), .slice lg gl.length lc] 73) :: .obj m (mapO (os.map Ob.en) last) :: .row 96 2 (.slice sg gs.length sc) gs.length (gapC gs) :: .row 96 2 (.slice lg gl.length lc) gl.length (gapC gl) :: .row 3 1 (.slice ro rs.length rc) rs.length (intC rs) :: .obj g5 (.cells #[.map (some g3)] 87) :: (os.map Ob.row ++ X)) := hM.bring 9 rfl rfl
         replace hM : Mg w0 w49 (.obj g5 (.cells #[.map (some g3)] 87) :: .obj g9 (.cells #[.slice wo1 ws1.length wc1] 33) :: .obj g3 (mapO (mkE 0 ws1) ws1.length) :: .row 3 1 (.slice wo1 ws1.length wc1) ws1.length (intC ws1) :: .obj g47 (.cells #[.int .i64 c1, .bool c2] 32) :: .obj h (.cells #[.map (some m), .int .i64 (((last : Nat) : Int)), .int .i64 (((ss : Nat) : Int)), .slice sg gs.length sc, .int .i64 (((ls : Nat) : Int)), .slice lg gl.length lc] 73) :: .obj m (mapO (os.map Ob.en) last) :: .row 96 2 (.slice sg gs.length sc) gs.length (gapC gs) :: .row 96 2 (.slice lg gl.length lc) gl.length (gapC gl) :: .row 3 1 (.slice ro rs.length rc) rs.length (intC rs) :: (os.map Ob.row ++ X)) := hM.bring 9 rfl rfl
         refine seq_call hA rfl rfl rfl (enters_fn rfl rfl (fun us w => by kernel_rfl)) (visit_any (x := c1) (by omega) hM) ?_
         rintro _ w55 ⟨wo52, wc53, rfl, hM54⟩
         replace hM : Mg w0 w55 (.obj g5 (.cells #[.map (some g3)] 87) :: .obj g9 (.cells #[.slice wo52 ((vis ws1 c1).length) wc53] 33) :: .obj g3 (mapO (mkE 0 (vis ws1 c1)) ((vis ws1 c1).length)) :: .row 3 1 (.slice wo52 ((vis ws1 c1).length) wc53) ((vis ws1 c1).length) (intC (vis ws1 c1)) :: .obj g47 (.cells #[.int .i64 c1, .bool c2] 32) :: .obj h (.cells #[.map (some m), .int .i64 (((last : Nat) : Int)), .int .i64 (((ss : Nat) : Int)), .slice sg gs.length sc, .int .i64 (((ls : Nat) : Int)), .slice lg gl.length lc] 73) :: .obj m (mapO (os.map Ob.en) last) :: .row 96 2 (.slice sg gs.length sc) gs.length (gapC gs) :: .row 96 2 (.slice lg gl.length lc) gl.length (gapC gl) :: .row 3 1 (.slice ro rs.length rc) rs.length (intC rs) :: (os.map Ob.row ++ X)) := hM54
         refine ⟨_, rfl, ?_⟩
         intro a hA
         refine seq_end ?_
         refine hK45 _ _ ?_
         refine wp_region_lit ?_
         refine seq_do (v := .int .i64 (((j + 1 : Nat) : Int))) hA rfl rfl rfl (does_bin rfl rfl (ar_add ((in_i64 (by omega) (by omega)).trans (by omega)))) ?_
         intro a hA
         refine seq_do hA rfl rfl rfl (does_move rfl) ?_
         intro a hA
         refine seq_end ?_
         replace hM : Mg w0 w55 (.row 3 1 (.slice wo52 ((vis ws1 c1).length) wc53) ((vis ws1 c1).length) (intC (vis ws1 c1)) :: .obj g5 (.cells #[.map (some g3)] 87) :: .obj g9 (.cells #[.slice wo52 ((vis ws1 c1).length) wc53] 33) :: .obj g3 (mapO (mkE 0 (vis ws1 c1)) ((vis ws1 c1).length)) :: .obj g47 (.cells #[.int .i64 c1, .bool c2] 32) :: .obj h (.cells #[.map (some m), .int .i64 (((last : Nat) : Int)), .int .i64 (((ss : Nat) : Int)), .slice sg gs.length sc, .int .i64 (((ls : Nat) : Int)), .slice lg gl.length lc] 73) :: .obj m (mapO (os.map Ob.en) last) :: .row 96 2 (.slice sg gs.length sc) gs.length (gapC gs) :: .row 96 2 (.slice lg gl.length lc) gl.length (gapC gl) :: .row 3 1 (.slice ro rs.length rc) rs.length (intC rs) :: (os.map Ob.row ++ X)) := hM.bring 3 rfl rfl
         replace hM : Mg w0 w55 (.obj g3 (mapO (mkE 0 (vis ws1 c1)) ((vis ws1 c1).length)) :: .row 3 1 (.slice wo52 ((vis ws1 c1).length) wc53) ((vis ws1 c1).length) (intC (vis ws1 c1)) :: .obj g5 (.cells #[.map (some g3)] 87) :: .obj g9 (.cells #[.slice wo52 ((vis ws1 c1).length) wc53] 33) :: .obj g47 (.cells #[.int .i64 c1, .bool c2] 32) :: .obj h (.cells #[.map (some m), .int .i64 (((last : Nat) : Int)), .int .i64 (((ss : Nat) : Int)), .slice sg gs.length sc, .int .i64 (((ls : Nat) : Int)), .slice lg gl.length lc] 73) :: .obj m (mapO (os.map Ob.en) last) :: .row 96 2 (.slice sg gs.length sc) gs.length (gapC gs) :: .row 96 2 (.slice lg gl.length lc) gl.length (gapC gl) :: .row 3 1 (.slice ro rs.length rc) rs.length (intC rs) :: (os.map Ob.row ++ X)) := hM.bring 3 rfl rfl
         replace hM : Mg w0 w55 (.obj g9 (.cells #[.slice wo52 ((vis ws1 c1).length) wc53] 33) :: .obj g3 (mapO (mkE 0 (vis ws1 c1)) ((vis ws1 c1).length)) :: .row 3 1 (.slice wo52 ((vis ws1 c1).length) wc53) ((vis ws1 c1).length) (intC (vis ws1 c1)) :: .obj g5 (.cells #[.map (some g3)] 87) :: .obj g47 (.cells #[.int .i64 c1, .bool c2] 32) :: .obj h (.cells #[.map (some m), .int .i64 (((last : Nat) : Int)), .int .i64 (((ss : Nat) : Int)), .slice sg gs.length sc, .int .i64 (((ls : Nat) : Int)), .slice lg gl.length lc] 73) :: .obj m (mapO (os.map Ob.en) last) :: .row 96 2 (.slice sg gs.length sc) gs.length (gapC gs) :: .row 96 2 (.slice lg gl.length lc) gl.length (gapC gl) :: .row 3 1 (.slice ro rs.length rc) rs.length (intC rs) :: (os.map Ob.row ++ X)) := hM.bring 3 rfl rfl
         replace hM : Mg w0 w55 (.obj g5 (.cells #[.map (some g3)] 87) :: .obj g9 (.cells #[.slice wo52 ((vis ws1 c1).length) wc53] 33) :: .obj g3 (mapO (mkE 0 (vis ws1 c1)) ((vis ws1 c1).length)) :: .row 3 1 (.slice wo52 ((vis ws1 c1).length) wc53) ((vis ws1 c1).length) (intC (vis ws1 c1)) :: .obj g47 (.cells #[.int .i64 c1, .bool c2] 32) :: .obj h (.cells #[.map (some m), .int .i64 (((last : Nat) : Int)), .int .i64 (((ss : Nat) : Int)), .slice sg gs.length sc, .int .i64 (((ls : Nat) : Int)), .slice lg gl.length lc] 73) :: .obj m (mapO (os.map Ob.en) last) :: .row 96 2 (.slice sg gs.length sc) gs.length (gapC gs) :: .row 96 2 (.slice lg gl.length lc) gl.length (gapC gl) :: .row 3 1 (.slice ro rs.length rc) rs.length (intC rs) :: (os.map Ob.row ++ X)) := hM.bring 3 rfl rfl
         replace hM : Mg w0 w55 (.row 3 1 (.slice ro rs.length rc) rs.length (intC rs) :: .obj g5 (.cells #[.map (some g3)] 87) :: .obj g9 (.cells #[.slice wo52 ((vis ws1 c1).length) wc53] 33) :: .obj g3 (mapO (mkE 0 (vis ws1 c1)) ((vis ws1 c1).length)) :: .row 3 1 (.slice wo52 ((vis ws1 c1).length) wc53) ((vis ws1 c1).length) (intC (vis ws1 c1)) :: .obj g47 (.cells #[.int .i64 c1, .bool c2] 32) :: .obj h (.cells #[.map (some m), .int .i64 (((last : Nat) : Int)), .int .i64 (((ss : Nat) : Int)), .slice sg gs.length sc, .int .i64 (((ls : Nat) : Int)), .slice lg gl.length lc] 73) :: .obj m (mapO (os.map Ob.en) last) :: .row 96 2 (.slice sg gs.length sc) gs.length (gapC gs) :: .row 96 2 (.slice lg gl.length lc) gl.length (gapC gl) :: (os.map Ob.row ++ X)) := hM.bring 9 rfl rfl
         replace hM : Mg w0 w55 (.row 96 2 (.slice lg gl.length lc) gl.length (gapC gl) :: .row 3 1 (.slice ro rs.length rc) rs.length (intC rs) :: .obj g5 (.cells #[.map (some g3)] 87) :: .obj g9 (.cells #[.slice wo52 ((vis ws1 c1).length) wc53] 33) :: .obj g3 (mapO (mkE 0 (vis ws1 c1)) ((vis ws1 c1).length)) :: .row 3 1 (.slice wo52 ((vis ws1 c1).length) wc53) ((vis ws1 c1).length) (intC (vis ws1 c1)) :: .obj g47 (.cells #[.int .i64 c1, .bool c2] 32) :: .obj h (.cells #[.map (some m), .int .i64 (((last : Nat) : Int)), .int .i64 (((ss : Nat) : Int)), .slice sg gs.length sc, .int .i64 (((ls : Nat) : Int)), .slice lg gl.length lc] 73) :: .obj m (mapO (os.map Ob.en) last) :: .row 96 2 (.slice sg gs.length sc) gs.length (gapC gs) :: (os.map Ob.row ++ X)) := hM.bring 9 rfl rfl
         replace hM : Mg w0 w55 (.row 96 2 (.slice sg gs.length sc) gs.length (gapC gs) :: .row 96 2 (.slice lg gl.length lc) gl.length (gapC gl) :: .row 3 1 (.slice ro rs.length rc) rs.length (intC rs) :: .obj g5 (.cells #[.map (some g3)] 87) :: .obj g9 (.cells #[.slice wo52 ((vis ws1 c1).length) wc53] 33) :: .obj g3 (mapO (mkE 0 (vis ws1 c1)) ((vis ws1 c1).length)) :: .row 3 1 (.slice wo52 ((vis ws1 c1).length) wc53) ((vis ws1 c1).length) (intC (vis ws1 c1)) :: .obj g47 (.cells #[.int .i64 c1, .bool c2] 32) :: .obj h (.cells #[.map (some m), .int .i64 (((last : Nat) : Int)), .int .i64 (((ss : Nat) : Int)), .slice sg gs.length sc, .int .i64 (((ls : Nat) : Int)), .slice lg gl.length lc] 73) :: .obj m (mapO (os.map Ob.en) last) :: (os.map Ob.row ++ X)) := hM.bring 9 rfl rfl
         replace hM : Mg w0 w55 (.obj m (mapO (os.map Ob.en) last) :: .row 96 2 (.slice sg gs.length sc) gs.length (gapC gs) :: .row 96 2 (.slice lg gl.length lc) gl.length (gapC gl) :: .row 3 1 (.slice ro rs.length rc) rs.length (intC rs) :: .obj g5 (.cells #[.map (some g3)] 87) :: .obj g9 (.cells #[.slice wo52 ((vis ws1 c1).length) wc53] 33) :: .obj g3 (mapO (mkE 0 (vis ws1 c1)) ((vis ws1 c1).length)) :: .row 3 1 (.slice wo52 ((vis ws1 c1).length) wc53) ((vis ws1 c1).length) (intC (vis ws1 c1)) :: .obj g47 (.cells #[.int .i64 c1, .bool c2] 32) :: .obj h (.cells #[.map (some m), .int .i64 (((last : Nat) : Int)), .int .i64 (((ss : Nat) : Int)), .slice sg gs.length sc, .int .i64 (((ls : Nat) : Int)), .slice lg gl.length lc] 73) :: (os.map Ob.row ++ X)) := hM.bring 9 rfl rfl
         replace hM : Mg w0 w55 (.obj h (.cells #[.map (some m), .int .i64 (((last : Nat) : Int)), .int .i64 (((ss : Nat) : Int)), .slice sg gs.length sc, .int .i64 (((ls : Nat) : Int)), .slice lg gl.length lc] 73) :: .obj m (mapO (os.map Ob.en) last) :: .row 96 2 (.slice sg gs.length sc) gs.length (gapC gs) :: .row 96 2 (.slice lg gl.length lc) gl.length (gapC gl) :: .row 3 1 (.slice ro rs.length rc) rs.length (intC rs) :: .obj g5 (.cells #[.map (some g3)] 87) :: .obj g9 (.cells #[.slice wo52 ((vis ws1 c1).length) wc53] 33) :: .obj g3 (mapO (mkE 0 (vis ws1 c1)) ((vis ws1 c1).length)) :: .row 3 1 (.slice wo52 ((vis ws1 c1).length) wc53) ((vis ws1 c1).length) (intC (vis ws1 c1)) :: .obj g47 (.cells #[.int .i64 c1, .bool c2] 32) :: (os.map Ob.row ++ X)) := hM.bring 9 rfl rfl
         replace hM : Mg w0 w55 (.obj h (.cells #[.map (some m), .int .i64 (((last : Nat) : Int)), .int .i64 (((ss : Nat) : Int)), .slice sg gs.length sc, .int .i64 (((ls : Nat) : Int)), .slice lg gl.length lc] 73) :: .obj m (mapO (os.map Ob.en) last) :: .row 96 2 (.slice sg gs.length sc) gs.length (gapC gs) :: .row 96 2 (.slice lg gl.length lc) gl.length (gapC gl) :: .row 3 1 (.slice ro rs.length rc) rs.length (intC rs) :: .obj g5 (.cells #[.map (some g3)] 87) :: .obj g9 (.cells #[.slice wo52 ((vis ws1 c1).length) wc53] 33) :: .obj g3 (mapO (mkE 0 (vis ws1 c1)) ((vis ws1 c1).length)) :: .row 3 1 (.slice wo52 ((vis ws1 c1).length) wc53) ((vis ws1 c1).length) (intC (vis ws1 c1)) :: (os.map Ob.row ++ X)) := by
           have h9 := hM.sub (.cons_cons _ (.cons_cons _ (.cons_cons _ (.cons_cons _ (.cons_cons _ (.cons_cons _ (.cons_cons _ (.cons_cons _ (.cons_cons _ (.cons _ (.refl _)))))))))))
           exact h9
         refine hK40 _ _ _ (by omega) ⟨j + 1, (vis ws1 c1), wo52, wc53, rfl, ⟨by omega, hV1.vis (hrf o hom _ (List.mem_of_getElem? hc) hc51) (fun k => .ref (hV1.rc z (List.mem_of_getElem? hz1)) ho (by rw [← hc51]; exact List.mem_of_getElem? hc) k), fun r hr h0 => vis_mem.2 (.inl (hR1 r hr h0)), hS1.more (Nat.le_of_lt (List.getElem?_eq_some_iff.1 hz1).1) _, vis_at hz1, take_ref hc (fun y hy h0 => vis_mem.2 (.inl (hK y hy h0))) (fun _ h0 => vis_mem.2 (.inr ⟨rfl, h0⟩))⟩, hA.keep _ ⟨rfl, rfl, rfl, rfl, rfl, rfl, rfl, rfl, rfl, rfl, rfl, rfl, rfl, rfl, rfl, rfl, rfl, rfl, rfl, rfl, rfl, rfl, rfl, rfl, rfl, rfl, rfl, rfl, rfl, trivial⟩, hM⟩
       · refine wp_skip ?_
         refine hK45 _ _ ?_
         refine wp_region_lit ?_
         refine seq_do (v := .int .i64 (((j + 1 : Nat) : Int))) hA rfl rfl rfl (does_bin rfl rfl (ar_add ((in_i64 (by omega) (by omega)).trans (by omega)))) ?_
         intro a hA
         refine seq_do hA rfl rfl rfl (does_move rfl) ?_
         intro a hA
         refine seq_end ?_
         replace hM : Mg w0 w49 (.row 3 1 (.slice wo1 ws1.length wc1) ws1.length (intC ws1) :: .obj g47 (.cells #[.int .i64 c1, .bool c2] 32) :: .obj h (.cells #[.map (some m), .int .i64 (((last : Nat) : Int)), .int .i64 (((ss : Nat) : Int)), .slice sg gs.length sc, .int .i64 (((ls : Nat) : Int)), .slice lg gl.length lc] 73) :: .obj m (mapO (os.map Ob.en) last) :: .row 96 2 (.slice sg gs.length sc) gs.length (gapC gs) :: .row 96 2 (.slice lg gl.length lc) gl.length (gapC gl) :: .row 3 1 (.slice ro rs.length rc) rs.length (intC rs) :: .obj g5 (.cells #[.map (some g3)] 87) :: .obj g9 (.cells #[.slice wo1 ws1.length wc1] 33) :: .obj g3 (mapO (mkE 0 ws1) ws1.length) :: (os.map Ob.row ++ X)) := hM.bring 9 rfl rfl
         replace hM : Mg w0 w49 (.obj g3 (mapO (mkE 0 ws1) ws1.length) :: .row 3 1 (.slice wo1 ws1.length wc1) ws1.length (intC ws1) :: .obj g47 (.cells #[.int .i64 c1, .bool c2] 32) :: .obj h (.cells #[.map (some m), .int .i64 (((last : Nat) : Int)), .int .i64 (((ss : Nat) : Int)), .slice sg gs.length sc, .int .i64 (((ls : Nat) : Int)), .slice lg gl.length lc] 73) :: .obj m (mapO (os.map Ob.en) last) :: .row 96 2 (.slice sg gs.length sc) gs.length (gapC gs) :: .row 96 2 (.slice lg gl.length lc) gl.length (gapC gl) :: .row 3 1 (.slice ro rs.length rc) rs.length (intC rs) :: .obj g5 (.cells #[.map (some g3)] 87) :: .obj g9 (.cells #[.slice wo1 ws1.length wc1] 33) :: (os.map Ob.row ++ X)) := hM.bring 9 rfl rfl
         replace hM : Mg w0 w49 (.obj g9 (.cells #[.slice wo1 ws1.length wc1] 33) :: .obj g3 (mapO (mkE 0 ws1) ws1.length) :: .row 3 1 (.slice wo1 ws1.length wc1) ws1.length (intC ws1) :: .obj g47 (.cells #[.int .i64 c1, .bool c2] 32) :: .obj h (.cells #[.map (some m), .int .i64 (((last : Nat) : Int)), .int .i64 (((ss : Nat) : Int)), .slice sg gs.length sc, .int .i64 (((ls : Nat) : Int)), .slice lg gl.length lc] 73) :: .obj m (mapO (os.map Ob.en) last) :: .row 96 2 (.slice sg gs.length sc) gs.length (gapC gs) :: .row 96 2 (.slice lg gl.length lc) gl.length (gapC gl) :: .row 3 1 (.slice ro rs.length rc) rs.length (intC rs) :: .obj g5 (.cells #[.map (some g3)] 87) :: (os.map Ob.row ++ X)) := hM.bring 9 rfl rfl
         replace hM : Mg w0 w49 (.obj g5 (.cells #[.map (some g3)] 87) :: .obj g9 (.cells #[.slice wo1 ws1.length wc1] 33) :: .obj g3 (mapO (mkE 0 ws1) ws1.length) :: .row 3 1 (.slice wo1 ws1.length wc1) ws1.length (intC ws1) :: .obj g47 (.cells #[.int .i64 c1, .bool c2] 32) :: .obj h (.cells #[.map (some m), .int .i64 (((last : Nat) : Int)), .int .i64 (((ss : Nat) : Int)), .slice sg gs.length sc, .int .i64 (((ls : Nat) : Int)), .slice lg gl.length lc] 73) :: .obj m (mapO (os.map Ob.en) last) :: .row 96 2 (.slice sg gs.length sc) gs.length (gapC gs) :: .row 96 2 (.slice lg gl.length lc) gl.length (gapC gl) :: .row 3 1 (.slice ro rs.length rc) rs.length (intC rs) :: (os.map Ob.row ++ X)) := hM.bring 9 rfl rfl
         replace hM : Mg w0 w49 (.row 3 1 (.slice ro rs.length rc) rs.length (intC rs) :: .obj g5 (.cells #[.map (some g3)] 87) :: .obj g9 (.cells #[.slice wo1 ws1.length wc1] 33) :: .obj g3 (mapO (mkE 0 ws1) ws1.length) :: .row 3 1 (.slice wo1 ws1.length wc1) ws1.length (intC ws1) :: .obj g47 (.cells #[.int .i64 c1, .bool c2] 32) :: .obj h (.cells #[.map (some m), .int .i64 (((last : Nat) : Int)), .int .i64 (((ss : Nat) : Int)), .slice sg gs.length sc, .int .i64 (((ls : Nat) : Int)), .slice lg gl.length lc] 73) :: .obj m (mapO (os.map Ob.en) last) :: .row 96 2 (.slice sg gs.length sc) gs.length (gapC gs) :: .row 96 2 (.slice lg gl.length lc) gl.length (gapC gl) :: (os.map Ob.row ++ X)) := hM.bring 9 rfl rfl
         replace hM : Mg w0 w49 (.row 96 2 (.slice lg gl.length lc) gl.length (gapC gl) :: .row 3 1 (.slice ro rs.length rc) rs.length (intC rs) :: .obj g5 (.cells #[.map (some g3)] 87) :: .obj g9 (.cells #[.slice wo1 ws1.length wc1] 33) :: .obj g3 (mapO (mkE 0 ws1) ws1.length) :: .row 3 1 (.slice wo1 ws1.length wc1) ws1.length (intC ws1) :: .obj g47 (.cells #[.int .i64 c1, .bool c2] 32) :: .obj h (.cells #[.map (some m), .int .i64 (((last : Nat) : Int)), .int .i64 (((ss : Nat) : Int)), .slice sg gs.length sc, .int .i64 (((ls : Nat) : Int)), .slice lg gl.length lc] 73) :: .obj m (mapO (os.map Ob.en) last) :: .row 96 2 (.slice sg gs.length sc) gs.length (gapC gs) :: (os.map Ob.row ++ X)) := hM.bring 9 rfl rfl
         replace hM : Mg w0 w49 (.row 96 2 (.slice sg gs.length sc) gs.length (gapC gs) :: .row 96 2 (.slice lg gl.length lc) gl.length (gapC gl) :: .row 3 1 (.slice ro rs.length rc) rs.length (intC rs) :: .obj g5 (.cells #[.map (some g3)] 87) :: .obj g9 (.cells #[.slice wo1 ws1.length wc1] 33) :: .obj g3 (mapO (mkE 0 ws1) ws1.length) :: .row 3 1 (.slice wo1 ws1.length wc1) ws1.length (intC ws1) :: .obj g47 (.cells #[.int .i64 c1, .bool c2] 32) :: .obj h (.cells #[.map (some m), .int .i64 (((last : Nat) : Int)), .int .i64 (((ss : Nat) : Int)), .slice sg gs.length sc, .int .i64 (((ls : Nat) : Int)), .slice lg gl.length lc] 73) :: .obj m (mapO (os.map Ob.en) last) :: (os.map Ob.row ++ X)) := hM.bring 9 rfl rfl
         replace hM : Mg w0 w49 (.obj m (mapO (os.map Ob.en) last) :: .row 96 2 (.slice sg gs.length sc) gs.length (gapC gs) :: .row 96 2 (.slice lg gl.length lc) gl.length (gapC gl) :: .row 3 1 (.slice ro rs.length rc) rs.length (intC rs) :: .obj g5 (.cells #[.map (some g3)] 87) :: .obj g9 (.cells #[.slice wo1 ws1.length wc1] 33) :: .obj g3 (mapO (mkE 0 ws1) ws1.length) :: .row 3 1 (.slice wo1 ws1.length wc1) ws1.length (intC ws1) :: .obj g47 (.cells #[.int .i64 c1, .bool c2] 32) :: .obj h (.cells #[.map (some m), .int .i64 (((last : Nat) : Int)), .int .i64 (((ss : Nat) : Int)), .slice sg gs.length sc, .int .i64 (((ls : Nat) : Int)), .slice lg gl.length lc] 73) :: (os.map Ob.row ++ X)) := hM.bring 9 rfl rfl
         replace hM : Mg w0 w49 (.obj h (.cells #[.map (some m), .int .i64 (((last : Nat) : Int)), .int .i64 (((ss : Nat) : Int)), .slice sg gs.length sc, .int .i64 (((ls : Nat) : Int)), .slice lg gl.length lc] 73) :: .obj m (mapO (os.map Ob.en) last) :: .row 96 2 (.slice sg gs.length sc) gs.length (gapC gs) :: .row 96 2 (.slice lg gl.length lc) gl.length (gapC gl) :: .row 3 1 (.slice ro rs.length rc) rs.length (intC rs) :: .obj g5 (.cells #[.map (some g3)] 87) :: .obj g9 (.cells #[.slice wo1 ws1.length wc1] 33) :: .obj g3 (mapO (mkE 0 ws1) ws1.length) :: .row 3 1 (.slice wo1 ws1.length wc1) ws1.length (intC ws1) :: .obj g47 (.cells #[.int .i64 c1, .bool c2] 32) :: (os.map Ob.row ++ X)) := hM.bring 9 rfl rfl
         replace hM : Mg w0 w49 (.obj h (.cells #[.map (some m), .int .i64 (((last : Nat) : Int)), .int .i64 (((ss : Nat) : Int)), .slice sg gs.length sc, .int .i64 (((ls : Nat) : Int)), .slice lg gl.length lc] 73) :: .obj m (mapO (os.map Ob.en) last) :: .row 96 2 (.slice sg gs.length sc) gs.length (gapC gs) :: .row 96 2 (.slice lg gl.length lc) gl.length (gapC gl) :: .row 3 1 (.slice ro rs.length rc) rs.length (intC rs) :: .obj g5 (.cells #[.map (some g3)] 87) :: .obj g9 (.cells #[.slice wo1 ws1.length wc1] 33) :: .obj g3 (mapO (mkE 0 ws1) ws1.length) :: .row 3 1 (.slice wo1 ws1.length wc1) ws1.length (intC ws1) :: (os.map Ob.row ++ X)) := by
           have h9 := hM.sub (.cons_cons _ (.cons_cons _ (.cons_cons _ (.cons_cons _ (.cons_cons _ (.cons_cons _ (.cons_cons _ (.cons_cons _ (.cons_cons _ (.cons _ (.refl _)))))))))))
           exact h9
         refine hK40 _ _ _ (by omega) ⟨j + 1, ws1, wo1, wc1, rfl, ⟨by omega, hV1, hR1, hS1, hz1, take_ref hc hK (fun k => by rw [hc51] at k; cases k)⟩, hA.keep _ ⟨rfl, rfl, rfl, rfl, rfl, rfl, rfl, rfl, rfl, rfl, rfl, rfl, rfl, rfl, rfl, rfl, rfl, rfl, rfl, rfl, rfl, rfl, rfl, rfl, rfl, rfl, rfl, rfl, rfl, trivial⟩, hM⟩
     · have hb43' := of_decide_eq_false hb43
       refine seq_do (v := .bool false) hA rfl rfl rfl (does_bin rfl rfl (fun w => (bin_lss w).trans (by rw [hb43]))) ?_
       intro a hA
       refine seq_end ?_
       refine hK42 _ _ ?_
       refine wp_seq_k (fun K56 hK56 => ?_)
       refine wp_cond_false (hA.ev rfl) ?_
       refine wp_exit ?_
       refine hK35 _ _ ?_
       refine wp_region_lit ?_
       refine seq_do hA rfl rfl rfl (does_move rfl) ?_
       intro a hA
       refine seq_do (v := .int .i64 (((i + 1 : Nat) : Int))) hA rfl rfl rfl (does_bin rfl rfl (ar_add ((in_i64 (by omega) (by omega)).trans (by omega)))) ?_
       intro a hA
       refine seq_do hA rfl rfl rfl (does_assign rfl) ?_
       intro a hA
       refine seq_end ?_
       replace hM : Mg w0 w39 (.row 3 1 (.slice wo1 ws1.length wc1) ws1.length (intC ws1) :: .obj h (.cells #[.map (some m), .int .i64 (((last : Nat) : Int)), .int .i64 (((ss : Nat) : Int)), .slice sg gs.length sc, .int .i64 (((ls : Nat) : Int)), .slice lg gl.length lc] 73) :: .obj m (mapO (os.map Ob.en) last) :: .row 96 2 (.slice sg gs.length sc) gs.length (gapC gs) :: .row 96 2 (.slice lg gl.length lc) gl.length (gapC gl) :: .row 3 1 (.slice ro rs.length rc) rs.length (intC rs) :: .obj g5 (.cells #[.map (some g3)] 87) :: .obj g9 (.cells #[.slice wo1 ws1.length wc1] 33) :: .obj g3 (mapO (mkE 0 ws1) ws1.length) :: (os.map Ob.row ++ X)) := hM.bring 8 rfl rfl
       replace hM : Mg w0 w39 (.obj g3 (mapO (mkE 0 ws1) ws1.length) :: .row 3 1 (.slice wo1 ws1.length wc1) ws1.length (intC ws1) :: .obj h (.cells #[.map (some m), .int .i64 (((last : Nat) : Int)), .int .i64 (((ss : Nat) : Int)), .slice sg gs.length sc, .int .i64 (((ls : Nat) : Int)), .slice lg gl.length lc] 73) :: .obj m (mapO (os.map Ob.en) last) :: .row 96 2 (.slice sg gs.length sc) gs.length (gapC gs) :: .row 96 2 (.slice lg gl.length lc) gl.length (gapC gl) :: .row 3 1 (.slice ro rs.length rc) rs.length (intC rs) :: .obj g5 (.cells #[.map (some g3)] 87) :: .obj g9 (.cells #[.slice wo1 ws1.length wc1] 33) :: (os.map Ob.row ++ X)) := hM.bring 8 rfl rfl
       replace hM : Mg w0 w39 (.obj g9 (.cells #[.slice wo1 ws1.length wc1] 33) :: .obj g3 (mapO (mkE 0 ws1) ws1.length) :: .row 3 1 (.slice wo1 ws1.length wc1) ws1.length (intC ws1) :: .obj h (.cells #[.map (some m), .int .i64 (((last : Nat) : Int)), .int .i64 (((ss : Nat) : Int)), .slice sg gs.length sc, .int .i64 (((ls : Nat) : Int)), .slice lg gl.length lc] 73) :: .obj m (mapO (os.map Ob.en) last) :: .row 96 2 (.slice sg gs.length sc) gs.length (gapC gs) :: .row 96 2 (.slice lg gl.length lc) gl.length (gapC gl) :: .row 3 1 (.slice ro rs.length rc) rs.length (intC rs) :: .obj g5 (.cells #[.map (some g3)] 87) :: (os.map Ob.row ++ X)) := hM.bring 8 rfl rfl
       replace hM : Mg w0 w39 (.obj g5 (.cells #[.map (some g3)] 87) :: .obj g9 (.cells #[.slice wo1 ws1.length wc1] 33) :: .obj g3 (mapO (mkE 0 ws1) ws1.length) :: .row 3 1 (.slice wo1 ws1.length wc1) ws1.length (intC ws1) :: .obj h (.cells #[.map (some m), .int .i64 (((last : Nat) : Int)), .int .i64 (((ss : Nat) : Int)), .slice sg gs.length sc, .int .i64 (((ls : Nat) : Int)), .slice lg gl.length lc] 73) :: .obj m (mapO (os.map Ob.en) last) :: .row 96 2 (.slice sg gs.length sc) gs.length (gapC gs) :: .row 96 2 (.slice lg gl.length lc) gl.length (gapC gl) :: .row 3 1 (.slice ro rs.length rc) rs.length (intC rs) :: (os.map Ob.row ++ X)) := hM.bring 8 rfl rfl
       replace hM : Mg w0 w39 (.row 3 1 (.slice ro rs.length rc) rs.length (intC rs) :: .obj g5 (.cells #[.map (some g3)] 87) :: .obj g9 (.cells #[.slice wo1 ws1.length wc1] 33) :: .obj g3 (mapO (mkE 0 ws1) ws1.length) :: .row 3 1 (.slice wo1 ws1.length wc1) ws1.length (intC ws1) :: .obj h (.cells #[.map (some m), .int .i64 (((last : Nat) : Int)), .int .i64 (((ss : Nat) : Int)), .slice sg gs.length sc, .int .i64 (((ls : Nat) : Int)), .slice lg gl.length lc] 73) :: .obj m (mapO (os.map Ob.en) last) :: .row 96 2 (.slice sg gs.length sc) gs.length (gapC gs) :: .row 96 2 (.slice lg gl.length lc) gl.length (gapC gl) :: (os.map Ob.row ++ X)) := hM.bring 8 rfl rfl
       replace hM : Mg w0 w39 (.row 96 2 (.slice lg gl.length lc) gl.length (gapC gl) :: .row 3 1 (.slice ro rs.length rc) rs.length (intC rs) :: .obj g5 (.cells #[.map (some g3)] 87) :: .obj g9 (.cells #[.slice wo1 ws1.length wc1] 33) :: .obj g3 (mapO (mkE 0 ws1) ws1.length) :: .row 3 1 (.slice wo1 ws1.length wc1) ws1.length (intC ws1) :: .obj h (.cells #[.map (some m), .int .i64 (((last : Nat) : Int)), .int .i64 (((ss : Nat) : Int)), .slice sg gs.length sc, .int .i64 (((ls : Nat) : Int)), .slice lg gl.length lc] 73) :: .obj m (mapO (os.map Ob.en) last) :: .row 96 2 (.slice sg gs.length sc) gs.length (gapC gs) :: (os.map Ob.row ++ X)) := hM.bring 8 rfl rfl
       replace hM : Mg w0 w39 (.row 96 2 (.slice sg gs.length sc) gs.length (gapC gs) :: .row 96 2 (.slice lg gl.length lc) gl.length (gapC gl) :: .row 3 1 (.slice ro rs.length rc) rs.length (intC rs) :: .obj g5 (.cells #[.map (some g3)] 87) :: .obj g9 (.cells #[.slice wo1 ws1.length wc1] 33) :: .obj g3 (mapO (mkE 0 ws1) ws1.length) :: .row 3 1 (.slice wo1 ws1.length wc1) ws1.length (intC ws1) :: .obj h (.cells #[.map (some m), .int .i64 (((last : Nat) : Int)), .int .i64 (((ss : Nat) : Int)), .slice sg gs.length sc, .int .i64 (((ls : Nat) : Int)), .slice lg gl.length lc] 73) :: .obj m (mapO (os.map Ob.en) last) :: (os.map Ob.row ++ X)) := hM.bring 8 rfl rfl
       replace hM : Mg w0 w39 (.obj m (mapO (os.map Ob.en) last) :: .row 96 2 (.slice sg gs.length sc) gs.length (gapC gs) :: .row 96 2 (.slice lg gl.length lc) gl.length (gapC gl) :: .row 3 1 (.slice ro rs.length rc) rs.length (intC rs) :: .obj g5 (.cells #[.map (some g3)] 87) :: .obj g9 (.cells #[.slice wo1 ws1.length wc1] 33) :: .obj g3 (mapO (mkE 0 ws1) ws1.length) :: .row 3 1 (.slice wo1 ws1.length wc1) ws1.length (intC ws1) :: .obj h (.cells #[.map (some m), .int .i64 (((last : Nat) : Int)), .int .i64 (((ss : Nat) : Int)), .slice sg gs.length sc, .int .i64 (((ls : Nat) : Int)), .slice lg gl.length lc] 73) :: (os.map Ob.row ++ X)) := hM.bring 8 rfl rfl
       replace hM : Mg w0 w39 (.obj h (.cells #[.map (some m), .int .i64 (((last : Nat) : Int)), .int .i64 (((ss : Nat) : Int)), .slice sg gs.length sc, .int .i64 (((ls : Nat) : Int)), .slice lg gl.length lc] 73) :: .obj m (mapO (os.map Ob.en) last) :: .row 96 2 (.slice sg gs.length sc) gs.length (gapC gs) :: .row 96 2 (.slice lg gl.length lc) gl.length (gapC gl) :: .row 3 1 (.slice ro rs.length rc) rs.length (intC rs) :: .obj g5 (.cells #[.map (some g3)] 87) :: .obj g9 (.cells #[.slice wo1 ws1.length wc1] 33) :: .obj g3 (mapO (mkE 0 ws1) ws1.length) :: .row 3 1 (.slice wo1 ws1.length wc1) ws1.length (intC ws1) :: (os.map Ob.row ++ X)) := hM.bring 8 rfl rfl
       refine hK30 _ _ _ (by have h7 := hV1.len; have h8 := (List.getElem?_eq_some_iff.1 hz1).1; omega) ⟨i + 1, ws1, wo1, wc1, rfl, ⟨(List.getElem?_eq_some_iff.1 hz1).1, hV1, hR1, hS1.next hz1 ho (by rw [List.take_of_length_le (by omega)] at hK; exact hK)⟩, hA.keep _ ⟨rfl, rfl, rfl, rfl, rfl, rfl, rfl, rfl, rfl, rfl, rfl, rfl, rfl, trivial⟩, hM⟩
   · have hb34' := of_decide_eq_false hb34
     refine seq_do (v := .bool false) hA rfl rfl rfl (does_bin rfl rfl (fun w => (bin_lss w).trans (by rw [hb34]))) ?_
     intro a hA
     refine seq_end ?_
     refine hK33 _ _ ?_
     refine wp_cond_false (hA.ev rfl) ?_
     refine wp_exit ?_
     refine hK27 _ _ ?_
     refine wp_seq_k (fun K57 hK57 => ?_)
     refine wp_region_lit ?_
     refine seq_do hA rfl rfl rfl (m_load1 hM HbF_is1_87 rfl 5 rfl rfl) ?_
     intro a hA
     refine seq_do hA rfl rfl rfl (does_assign rfl) ?_
     intro a hA
     refine seq_end ?_
     refine hK57 _ _ ?_
     refine wp_ret ?_
     refine hret _ _ ?_
     refine ends (v := .map (some g3)) hA rfl (.cons (res_tmp rfl) .nil) rfl ?_
     replace hM : Mg w0 w29 (.obj g3 (mapO (mkE 0 ws) ws.length) :: .obj h (.cells #[.map (some m), .int .i64 (((last : Nat) : Int)), .int .i64 (((ss : Nat) : Int)), .slice sg gs.length sc, .int .i64 (((ls : Nat) : Int)), .slice lg gl.length lc] 73) :: .obj m (mapO (os.map Ob.en) last) :: .row 96 2 (.slice sg gs.length sc) gs.length (gapC gs) :: .row 96 2 (.slice lg gl.length lc) gl.length (gapC gl) :: .row 3 1 (.slice ro rs.length rc) rs.length (intC rs) :: .obj g5 (.cells #[.map (some g3)] 87) :: .obj g9 (.cells #[.slice wo ws.length wc] 33) :: .row 3 1 (.slice wo ws.length wc) ws.length (intC ws) :: (os.map Ob.row ++ X)) := hM.bring 7 rfl rfl
     replace hM : Mg w0 w29 (.row 3 1 (.slice ro rs.length rc) rs.length (intC rs) :: .obj g3 (mapO (mkE 0 ws) ws.length) :: .obj h (.cells #[.map (some m), .int .i64 (((last : Nat) : Int)), .int .i64 (((ss : Nat) : Int)), .slice sg gs.length sc, .int .i64 (((ls : Nat) : Int)), .slice lg gl.length lc] 73) :: .obj m (mapO (os.map Ob.en) last) :: .row 96 2 (.slice sg gs.length sc) gs.length (gapC gs) :: .row 96 2 (.slice lg gl.length lc) gl.length (gapC gl) :: .obj g5 (.cells #[.map (some g3)] 87) :: .obj g9 (.cells #[.slice wo ws.length wc] 33) :: .row 3 1 (.slice wo ws.length wc) ws.length (intC ws) :: (os.map Ob.row ++ X)) := hM.bring 5 rfl rfl
     replace hM : Mg w0 w29 (.row 96 2 (.slice lg gl.length lc) gl.length (gapC gl) :: .row 3 1 (.slice ro rs.length rc) rs.length (intC rs) :: .obj g3 (mapO (mkE 0 ws) ws.length) :: .obj h (.cells #[.map (some m), .int .i64 (((last : Nat) : Int)), .int .i64 (((ss : Nat) : Int)), .slice sg gs.length sc, .int .i64 (((ls : Nat) : Int)), .slice lg gl.length lc] 73) :: .obj m (mapO (os.map Ob.en) last) :: .row 96 2 (.slice sg gs.length sc) gs.length (gapC gs) :: .obj g5 (.cells #[.map (some g3)] 87) :: .obj g9 (.cells #[.slice wo ws.length wc] 33) :: .row 3 1 (.slice wo ws.length wc) ws.length (intC ws) :: (os.map Ob.row ++ X)) := hM.bring 5 rfl rfl
     replace hM : Mg w0 w29 (.row 96 2 (.slice sg gs.length sc) gs.length (gapC gs) :: .row 96 2 (.slice lg gl.length lc) gl.length (gapC gl) :: .row 3 1 (.slice ro rs.length rc) rs.length (intC rs) :: .obj g3 (mapO (mkE 0 ws) ws.length) :: .obj h (.cells #[.map (some m), .int .i64 (((last : Nat) : Int)), .int .i64 (((ss : Nat) : Int)), .slice sg gs.length sc, .int .i64 (((ls : Nat) : Int)), .slice lg gl.length lc] 73) :: .obj m (mapO (os.map Ob.en) last) :: .obj g5 (.cells #[.map (some g3)] 87) :: .obj g9 (.cells #[.slice wo ws.length wc] 33) :: .row 3 1 (.slice wo ws.length wc) ws.length (intC ws) :: (os.map Ob.row ++ X)) := hM.bring 5 rfl rfl
     replace hM : Mg w0 w29 (.obj m (mapO (os.map Ob.en) last) :: .row 96 2 (.slice sg gs.length sc) gs.length (gapC gs) :: .row 96 2 (.slice lg gl.length lc) gl.length (gapC gl) :: .row 3 1 (.slice ro rs.length rc) rs.length (intC rs) :: .obj g3 (mapO (mkE 0 ws) ws.length) :: .obj h (.cells #[.map (some m), .int .i64 (((last : Nat) : Int)), .int .i64 (((ss : Nat) : Int)), .slice sg gs.length sc, .int .i64 (((ls : Nat) : Int)), .slice lg gl.length lc] 73) :: .obj g5 (.cells #[.map (some g3)] 87) :: .obj g9 (.cells #[.slice wo ws.length wc] 33) :: .row 3 1 (.slice wo ws.length wc) ws.length (intC ws) :: (os.map Ob.row ++ X)) := hM.bring 5 rfl rfl
     replace hM : Mg w0 w29 (.obj h (.cells #[.map (some m), .int .i64 (((last : Nat) : Int)), .int .i64 (((ss : Nat) : Int)), .slice sg gs.length sc, .int .i64 (((ls : Nat) : Int)), .slice lg gl.length lc] 73) :: .obj m (mapO (os.map Ob.en) last) :: .row 96 2 (.slice sg gs.length sc) gs.length (gapC gs) :: .row 96 2 (.slice lg gl.length lc) gl.length (gapC gl) :: .row 3 1 (.slice ro rs.length rc) rs.length (intC rs) :: .obj g3 (mapO (mkE 0 ws) ws.length) :: .obj g5 (.cells #[.map (some g3)] 87) :: .obj g9 (.cells #[.slice wo ws.length wc] 33) :: .row 3 1 (.slice wo ws.length wc) ws.length (intC ws) :: (os.map Ob.row ++ X)) := hM.bring 5 rfl rfl
     replace hM : Mg w0 w29 (.obj h (.cells #[.map (some m), .int .i64 (((last : Nat) : Int)), .int .i64 (((ss : Nat) : Int)), .slice sg gs.length sc, .int .i64 (((ls : Nat) : Int)), .slice lg gl.length lc] 73) :: .obj m (mapO (os.map Ob.en) last) :: .row 96 2 (.slice sg gs.length sc) gs.length (gapC gs) :: .row 96 2 (.slice lg gl.length lc) gl.length (gapC gl) :: .row 3 1 (.slice ro rs.length rc) rs.length (intC rs) :: .obj g3 (mapO (mkE 0 ws) ws.length) :: (os.map Ob.row ++ X)) := by
       have h9 := hM.sub (.cons_cons _ (.cons_cons _ (.cons_cons _ (.cons_cons _ (.cons_cons _ (.cons_cons _ (.cons _ (.cons _ (.cons _ (.refl _))))))))))
       exact h9
     have e9 : i = ws.length := by omega
     subst e9
     exact ⟨_, ws, rfl, ⟨hV, reach_all hV hR hS⟩, hM⟩
end Go.Proofs.Ytcigofjajphmjaa
