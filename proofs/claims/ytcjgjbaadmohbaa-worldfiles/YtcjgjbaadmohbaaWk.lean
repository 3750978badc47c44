/- Walks of the document's Put and Write. -/
import Derived.Test.YtcjgjbaadmohbaaWj
namespace Go.Proofs.Ytcjgjbaadmohbaa
open Go.RowKit
set_option linter.unusedVariables false
set_option linter.unusedSimpArgs false
set_option maxRecDepth 100000
theorem Wk_is1_35 : Is1 Try.prog 35 := ⟨⟨_, Try.underlying35, rfl⟩, by kernel_rfl⟩
theorem Wk_is1_9 : Is1 Try.prog 9 := ⟨⟨_, Try.underlying9, rfl⟩, by kernel_rfl⟩
theorem Wk_fld_37_0 : FieldAt Try.prog 37 0 0 := ⟨_, _, Try.underlying37, rfl, rfl, by kernel_rfl⟩
theorem Wk_fld_88_0 : FieldAt Try.prog 88 0 0 := ⟨_, _, Try.underlying88, rfl, rfl, by kernel_rfl⟩
theorem Wk_isS_37 : IsS Try.prog 37 3 := ⟨⟨_, Try.underlying37⟩, by kernel_rfl⟩
theorem Wk_isS_88 : IsS Try.prog 88 2 := ⟨⟨_, Try.underlying88⟩, by kernel_rfl⟩
set_option maxHeartbeats 1000000 in
theorem rput_any {w : World} {sF sI sO : Option Addr} {cF_ cI cO : Nat} {fs : List Fl} {il ol : List UInt8} {nm : ByteArray} {so : Option Addr} {cd : Nat} {d : List UInt8} (hF : Rf w sF fs) (hI : Rb w sI il) (hO : Rb w sO ol) (hn : fs.length ≤ 4398046511104) (hb : Rb w so d) : Calls Try.prog 18 #[.agg #[.slice sF fs.length cF_, .slice sI il.length cI, .slice sO ol.length cO], .string nm, .slice so d.length cd] w fun e w' => RetW w e w' (putR nm d fs il ol) := by
 have hM : Mg w w ([]) := Mg.start w
 refine walk_of (l := [(0, .agg #[.slice sF fs.length cF_, .slice sI il.length cI, .slice sO ol.length cO]), (1, .string nm), (2, .slice so d.length cd)]) Try.func18 rfl Try.ntmps18 rfl rfl ?_
 intro Q hret hnorm hP a hA
 refine wp_seq_k (fun K1 hK1 => ?_)
 refine wp_region_lit ?_
 refine s_new (vs := [.slice sF fs.length cF_, .slice sI il.length cI, .slice sO ol.length cO]) (t := 37) hA hM rfl rfl rfl (fun g => .pointer (some ⟨g, 0, none⟩)) (does_box rfl rfl) (by decide) ?_
 intro g2 w3 hM a hA
 refine s_new (vs := [.slice none 0 0, .slice none 0 0, .slice none 0 0]) (t := 37) hA hM rfl rfl rfl (fun g => .pointer (some ⟨g, 0, none⟩)) (does_alloc (z := .agg #[.slice none 0 0, .slice none 0 0, .slice none 0 0]) (by kernel_rfl) rfl) (by decide) ?_
 intro g4 w5 hM a hA
 refine seq_do hA rfl rfl rfl (does_assign rfl) ?_
 intro a hA
 refine seq_end ?_
 refine hK1 _ _ ?_
 refine wp_seq_k (fun K6 hK6 => ?_)
 refine wp_seq_k (fun K7 hK7 => ?_)
 refine wp_region_lit ?_
 refine seq_do hA rfl rfl rfl (m_loadS hM Wk_isS_37 rfl 1 rfl (cs := [.slice sF fs.length cF_, .slice sI il.length cI, .slice sO ol.length cO]) rfl rfl) ?_
 intro a hA
 rcases Bool.eq_false_or_eq_true (soundS fs il ol) with hb8 | hb8
 · refine seq_call hA rfl rfl rfl (enters_func rfl rfl (fun w => by kernel_rfl)) (rsound_as (hF.below hM.bel) hn hb8) ?_
   rintro _ w10 ⟨rfl, hb9⟩
   replace hM := hM.call hb9
   refine ⟨_, rfl, ?_⟩
   intro a hA
   refine seq_do (v := .bool false) hA rfl rfl rfl (does_un rfl un_not) ?_
   intro a hA
   refine seq_end ?_
   refine hK7 _ _ ?_
   refine wp_cond_false (hA.ev rfl) ?_
   refine wp_skip ?_
   refine hK6 _ _ ?_
   refine wp_seq_k (fun K11 hK11 => ?_)
   refine wp_seq_k (fun K12 hK12 => ?_)
   have hsp := sound_parts hb8
   refine wp_region_lit ?_
   refine seq_do hA rfl rfl rfl (does_move rfl) ?_
   intro a hA
   rcases Bool.eq_false_or_eq_true (namedB nm) with hb13 | hb13
   · refine seq_call hA rfl rfl rfl (enters_func rfl rfl (fun w => by kernel_rfl)) (rnamed_as hb13) ?_
     rintro _ w15 ⟨rfl, hb14⟩
     replace hM := hM.call hb14
     refine ⟨_, rfl, ?_⟩
     intro a hA
     refine seq_do (v := .bool false) hA rfl rfl rfl (does_un rfl un_not) ?_
     intro a hA
     refine seq_end ?_
     refine hK12 _ _ ?_
     refine wp_cond_false (hA.ev rfl) ?_
     refine wp_skip ?_
     refine hK11 _ _ ?_
     refine wp_seq_k (fun K16 hK16 => ?_)
     refine wp_seq_k (fun K17 hK17 => ?_)
     refine wp_region_lit ?_
     refine seq_do hA rfl rfl rfl (does_move rfl) ?_
     intro a hA
     refine seq_do (v := .int .i64 (((d.length : Nat) : Int))) hA rfl rfl rfl (does_len Try.underlying24 rfl) ?_
     intro a hA
     rcases Bool.eq_false_or_eq_true (decide (65536 < ((d.length : Nat) : Int))) with hb18 | hb18
     · have hb18' := of_decide_eq_true hb18
       refine seq_do (v := .bool true) hA rfl rfl rfl (does_bin rfl rfl (fun w => (bin_gtr w).trans (by rw [hb18]))) ?_
       intro a hA
       refine seq_end ?_
       refine hK17 _ _ ?_
       refine wp_cond_true (hA.ev rfl) ?_
       refine wp_seq_k (fun K19 hK19 => ?_)
       refine wp_region_lit ?_
       refine seq_do (v := .agg #[.slice none 0 0, .slice none 0 0, .slice none 0 0]) hA rfl rfl rfl (does_build rfl (fun w => by kernel_rfl)) ?_
       intro a hA
       refine s_store (us := [.slice none 0 0, .slice none 0 0, .slice none 0 0]) (L' := (.obj g4 (.cells #[.slice none 0 0, .slice none 0 0, .slice none 0 0] 37) :: .obj g2 (.cells #[.slice sF fs.length cF_, .slice sI il.length cI, .slice sO ol.length cO] 37) :: [])) hA hM rfl rfl (m_store rfl rfl rfl (by kernel_rfl) hM 0 rfl rfl rfl) 0 rfl rfl rfl ?_
       intro w20 hM
       refine seq_do hA rfl rfl rfl (does_assign rfl) ?_
       intro a hA
       refine seq_end ?_
       refine hK19 _ _ ?_
       refine wp_ret ?_
       refine hret _ _ ?_
       refine ends (v := .tuple #[.agg #[.slice none 0 0, .slice none 0 0, .slice none 0 0], .int .i64 4]) hA rfl (.cons (res_cellS hM Wk_isS_37 rfl 0 rfl (cs := [.slice none 0 0, .slice none 0 0, .slice none 0 0]) rfl rfl) (.cons (res_tmp rfl) .nil)) rfl ?_
       rw [show putR nm d fs il ol = (4, [], [], []) from by unfold putR; rw [if_neg (by rw [hb8]; decide), if_neg (by rw [hb13]; decide), if_pos (by omega)]]
       exact ret_zero hM
     · have hb18' := of_decide_eq_false hb18
       refine seq_do (v := .bool false) hA rfl rfl rfl (does_bin rfl rfl (fun w => (bin_gtr w).trans (by rw [hb18]))) ?_
       intro a hA
       refine seq_end ?_
       refine hK17 _ _ ?_
       refine wp_cond_false (hA.ev rfl) ?_
       refine wp_skip ?_
       refine hK16 _ _ ?_
       refine wp_seq_k (fun K21 hK21 => ?_)
       refine wp_seq_k (fun K22 hK22 => ?_)
       refine wp_region_lit ?_
       refine seq_do hA rfl rfl rfl (m_loadS hM Wk_isS_37 rfl 1 rfl (cs := [.slice sF fs.length cF_, .slice sI il.length cI, .slice sO ol.length cO]) rfl rfl) ?_
       intro a hA
       refine seq_do hA rfl rfl rfl (does_move rfl) ?_
       intro a hA
       rcases Bool.eq_false_or_eq_true ((lookF nm fs).isNone) with hb23 | hb23
       · obtain ⟨hfx, hl0⟩ := find_none hb23
         refine seq_call hA rfl rfl rfl (enters_func rfl rfl (fun w => by kernel_rfl)) ((show Calls Try.prog 58 #[.agg #[.slice sF fs.length cF_, .slice sI il.length cI, .slice sO ol.length cO], .string nm] _ (fun e w' => e = .returned (.int .i64 (-1)) ∧ _) from (hfx ▸ rfind_any (nm := nm) (cF_ := cF_) (cI := cI) (cO := cO) (sI := sI) (sO := sO) (il := il) (ol := ol) (hF.below hM.bel) hn))) ?_
         rintro _ w25 ⟨rfl, hb24⟩
         replace hM := hM.call hb24
         refine ⟨_, rfl, ?_⟩
         intro a hA
         refine seq_do (v := .bool true) hA rfl rfl rfl (does_bin rfl rfl (fun w => by kernel_rfl)) ?_
         intro a hA
         refine seq_do hA rfl rfl rfl (does_move rfl) ?_
         intro a hA
         refine seq_do (v := .pointer (some ⟨g2, 0, none⟩)) hA rfl rfl rfl (does_field Wk_fld_37_0 rfl rfl) ?_
         intro a hA
         refine seq_do hA rfl rfl rfl (m_load1 hM Wk_is1_35 rfl 1 rfl rfl) ?_
         intro a hA
         refine seq_do (v := .int .i64 (((fs.length : Nat) : Int))) hA rfl rfl rfl (does_len Try.underlying35 rfl) ?_
         intro a hA
         rcases Bool.eq_false_or_eq_true ((((fs.length : Nat) : Int) == 64)) with hb26 | hb26
         · have hb26' := eq_of_beq hb26
           refine seq_do (v := .bool true) hA rfl rfl rfl (does_bin rfl rfl (fun w => (bin_eql w).trans (by rw [hb26]))) ?_
           intro a hA
           refine seq_do (v := .bool true) hA rfl rfl rfl (does_pick rfl rfl rfl rfl) ?_
           intro a hA
           refine seq_end ?_
           refine hK22 _ _ ?_
           refine wp_cond_true (hA.ev rfl) ?_
           refine wp_seq_k (fun K27 hK27 => ?_)
           refine wp_region_lit ?_
           refine seq_do (v := .agg #[.slice none 0 0, .slice none 0 0, .slice none 0 0]) hA rfl rfl rfl (does_build rfl (fun w => by kernel_rfl)) ?_
           intro a hA
           refine s_store (us := [.slice none 0 0, .slice none 0 0, .slice none 0 0]) (L' := (.obj g4 (.cells #[.slice none 0 0, .slice none 0 0, .slice none 0 0] 37) :: .obj g2 (.cells #[.slice sF fs.length cF_, .slice sI il.length cI, .slice sO ol.length cO] 37) :: [])) hA hM rfl rfl (m_store rfl rfl rfl (by kernel_rfl) hM 0 rfl rfl rfl) 0 rfl rfl rfl ?_
           intro w28 hM
           refine seq_do hA rfl rfl rfl (does_assign rfl) ?_
           intro a hA
           refine seq_end ?_
           refine hK27 _ _ ?_
           refine wp_ret ?_
           refine hret _ _ ?_
           refine ends (v := .tuple #[.agg #[.slice none 0 0, .slice none 0 0, .slice none 0 0], .int .i64 9]) hA rfl (.cons (res_cellS hM Wk_isS_37 rfl 0 rfl (cs := [.slice none 0 0, .slice none 0 0, .slice none 0 0]) rfl rfl) (.cons (res_tmp rfl) .nil)) rfl ?_
           rw [show putR nm d fs il ol = (9, [], [], []) from by unfold putR; rw [if_neg (by rw [hb8]; decide), if_neg (by rw [hb13]; decide), if_neg (by omega), if_pos ⟨hb23, by omega⟩]]
           exact ret_zero hM
         · have hb26' := ne_of_beq_false hb26
           refine seq_do (v := .bool false) hA rfl rfl rfl (does_bin rfl rfl (fun w => (bin_eql w).trans (by rw [hb26]))) ?_
           intro a hA
           refine seq_do (v := .bool false) hA rfl rfl rfl (does_pick rfl rfl rfl rfl) ?_
           intro a hA
           refine seq_end ?_
           refine hK22 _ _ ?_
           refine wp_cond_false (hA.ev rfl) ?_
           refine wp_skip ?_
           refine hK21 _ _ ?_
           refine wp_seq_k (fun K29 hK29 => ?_)
           refine wp_region_lit ?_
           refine seq_do hA rfl rfl rfl (m_loadS hM Wk_isS_37 rfl 1 rfl (cs := [.slice sF fs.length cF_, .slice sI il.length cI, .slice sO ol.length cO]) rfl rfl) ?_
           intro a hA
           refine seq_call hA rfl rfl rfl (enters_func rfl rfl (fun w => by kernel_rfl)) (rcopy_any (cF_ := cF_) (cI := cI) (cO := cO) (hF.below hM.bel) (hI.below hM.bel) (hO.below hM.bel) (Bd.sound hb8)) ?_
           rintro _ w41 ⟨vF30, vI31, vO32, rfl, hOw33⟩
           obtain ⟨gs, D, hM34, hGD, hgr, hnD⟩ := hOw33
           obtain ⟨sF35, cF36, rfl⟩ := owns_sliceE (hM34.has 0 rfl)
           obtain ⟨sI37, cI38, rfl⟩ := owns_sliceE (hM34.has 1 rfl)
           obtain ⟨sO39, cO40, rfl⟩ := owns_sliceE (hM34.has 2 rfl)
           have hgl : gs.length = fs.length := by rw [← hgr, readF_len]
           replace hM : Mg w w41 (.row 88 2 (.slice sF35 fs.length cF36) fs.length ((cellsF gs)) :: .row BY 1 (.slice sI37 il.length cI38) il.length ((Lib.byteCells il)) :: .row BY 1 (.slice sO39 ol.length cO40) ol.length ((Lib.byteCells ol)) :: .obj g4 (.cells #[.slice none 0 0, .slice none 0 0, .slice none 0 0] 37) :: .obj g2 (.cells #[.slice sF fs.length cF_, .slice sI il.length cI, .slice sO ol.length cO] 37) :: D) := ((hM.both hM34 (noBld_cons (by simp) (noBld_cons (by simp) (noBld_quiet quietL_nil))) (noBld_cons (by simp) (noBld_cons (by simp) (noBld_cons (by simp) hnD)))).perm (perm_own _ _ _ _ _))
           refine ⟨_, rfl, ?_⟩
           intro a hA
           refine s_new (vs := [.slice none 0 0, .slice none 0 0, .slice none 0 0]) (t := 37) hA hM rfl rfl rfl (fun g => .pointer (some ⟨g, 0, none⟩)) (does_alloc (z := .agg #[.slice none 0 0, .slice none 0 0, .slice none 0 0]) (by kernel_rfl) rfl) (by decide) ?_
           intro g42 w43 hM a hA
           refine s_store (us := [.slice sF35 fs.length cF36, .slice sI37 il.length cI38, .slice sO39 ol.length cO40]) (L' := (.obj g42 (.cells #[.slice sF35 fs.length cF36, .slice sI37 il.length cI38, .slice sO39 ol.length cO40] 37) :: .row 88 2 (.slice sF35 fs.length cF36) fs.length ((cellsF gs)) :: .row BY 1 (.slice sI37 il.length cI38) il.length ((Lib.byteCells il)) :: .row BY 1 (.slice sO39 ol.length cO40) ol.length ((Lib.byteCells ol)) :: .obj g4 (.cells #[.slice none 0 0, .slice none 0 0, .slice none 0 0] 37) :: .obj g2 (.cells #[.slice sF fs.length cF_, .slice sI il.length cI, .slice sO ol.length cO] 37) :: D)) hA hM rfl rfl (m_store rfl rfl rfl (by kernel_rfl) hM 0 rfl rfl rfl) 0 rfl rfl rfl ?_
           intro w44 hM
           refine seq_end ?_
           refine hK29 _ _ ?_
           refine wp_seq_k (fun K45 hK45 => ?_)
           refine wp_region_lit ?_
           refine seq_do (v := .pointer (some ⟨g42, 0, none⟩)) hA rfl rfl rfl (does_field Wk_fld_37_0 rfl rfl) ?_
           intro a hA
           refine seq_do hA rfl rfl rfl (m_load1 hM Wk_is1_35 rfl 0 rfl rfl) ?_
           intro a hA
           refine seq_do hA rfl rfl rfl (does_move rfl) ?_
           intro a hA
           refine seq_call hA rfl rfl rfl (enters_func rfl rfl (fun w => by kernel_rfl)) ((show Calls Try.prog 59 #[.slice sF35 fs.length cF36, .string nm] _ _ from hgl ▸ rwithout_any (nm := nm) (rc_own hM 1 rfl) (gs_one hM (fun c hc => (List.mem_cons_of_mem _ (List.mem_cons_of_mem _ (List.mem_cons_of_mem _ (List.mem_cons_of_mem _ (List.mem_cons_of_mem _ (List.mem_cons_of_mem _ hc))))))) hGD) (by omega))) ?_
           rintro _ w50 ⟨v46, rfl, hM47⟩
           obtain ⟨so48, ca49, rfl⟩ := owns_sliceE (hM47.has 0 rfl)
           replace hM : Mg w w50 (.row 88 2 (.slice so48 ((wthG nm gs).length) ca49) ((wthG nm gs).length) ((cellsF (wthG nm gs))) :: .obj g42 (.cells #[.slice sF35 fs.length cF36, .slice sI37 il.length cI38, .slice sO39 ol.length cO40] 37) :: .row 88 2 (.slice sF35 fs.length cF36) fs.length ((cellsF gs)) :: .row BY 1 (.slice sI37 il.length cI38) il.length ((Lib.byteCells il)) :: .row BY 1 (.slice sO39 ol.length cO40) ol.length ((Lib.byteCells ol)) :: .obj g4 (.cells #[.slice none 0 0, .slice none 0 0, .slice none 0 0] 37) :: .obj g2 (.cells #[.slice sF fs.length cF_, .slice sI il.length cI, .slice sO ol.length cO] 37) :: D) := (hM.both hM47 (noBld_cons (by simp) (noBld_cons (by simp) (noBld_cons (by simp) (noBld_cons (by simp) (noBld_cons (by simp) (noBld_cons (by simp) hnD)))))) (noBld_cons (by simp) (noBld_quiet quietL_nil)))
           refine ⟨_, rfl, ?_⟩
           intro a hA
           refine seq_do hA rfl rfl rfl (does_assign rfl) ?_
           intro a hA
           refine seq_end ?_
           refine hK45 _ _ ?_
           refine wp_seq_k (fun K51 hK51 => ?_)
           refine wp_region_lit ?_
           refine s_litE (e := 88) (sz := 2) (m := 0) (vs := []) hA hM rfl rfl rfl (does_buildSlice rfl (by kernel_rfl)) rfl rfl (.inl (by decide)) ?_
           intro g52 w53 hM a hA
           refine seq_do hA rfl rfl rfl (does_assign rfl) ?_
           intro a hA
           refine seq_end ?_
           refine hK51 _ _ ?_
           refine wp_seq_k (fun K54 hK54 => ?_)
           refine wp_region_lit ?_
           refine seq_do hA rfl rfl rfl (does_move rfl) ?_
           intro a hA
           refine s_lit (vs := []) hA hM rfl rfl rfl (does_buildSlice rfl (by kernel_rfl)) rfl rfl (noBld_cons (by simp) (noBld_cons (by simp) (noBld_cons (by simp) (noBld_cons (by simp) (noBld_cons (by simp) (noBld_cons (by simp) (noBld_cons (by simp) (noBld_cons (by simp) hnD)))))))) ?_
           intro g55 w56 hM a hA
           refine seq_do hA rfl rfl rfl (does_move rfl) ?_
           intro a hA
           refine s_append (k := 0) (q := 0) (m := d.length) (xs := []) (news := Lib.byteCells d) (L' := fun v57 => (.row BY 1 (v57) ((0 + d.length)) (([] ++ Lib.byteCells d)) :: .row 88 2 (.slice (some ⟨g52, 0, none⟩) 0 0) 0 ([]) :: .row 88 2 (.slice so48 ((wthG nm gs).length) ca49) ((wthG nm gs).length) ((cellsF (wthG nm gs))) :: .obj g42 (.cells #[.slice sF35 fs.length cF36, .slice sI37 il.length cI38, .slice sO39 ol.length cO40] 37) :: .row 88 2 (.slice sF35 fs.length cF36) fs.length ((cellsF gs)) :: .row BY 1 (.slice sI37 il.length cI38) il.length ((Lib.byteCells il)) :: .row BY 1 (.slice sO39 ol.length cO40) ol.length ((Lib.byteCells ol)) :: .obj g4 (.cells #[.slice none 0 0, .slice none 0 0, .slice none 0 0] 37) :: .obj g2 (.cells #[.slice sF fs.length cF_, .slice sI il.length cI, .slice sO ol.length cO] 37) :: D)) hA rfl rfl rfl (m_appendA Try.underlying24 (by kernel_rfl) hM 0 rfl rfl (show Rb _ _ d from hb.below hM.bel) rfl (by first | omega | (simp only [List.length_nil]; omega) | (simp only [List.length_take, List.length_drop, List.length_nil]; omega))) (fun _ => rfl) ?_
           intro v57 w58 hM a hA
           replace hM : Mg w w58 (.row BY 1 (v57) d.length ((Lib.byteCells d)) :: .row 88 2 (.slice (some ⟨g52, 0, none⟩) 0 0) 0 ([]) :: .row 88 2 (.slice so48 ((wthG nm gs).length) ca49) ((wthG nm gs).length) ((cellsF (wthG nm gs))) :: .obj g42 (.cells #[.slice sF35 fs.length cF36, .slice sI37 il.length cI38, .slice sO39 ol.length cO40] 37) :: .row 88 2 (.slice sF35 fs.length cF36) fs.length ((cellsF gs)) :: .row BY 1 (.slice sI37 il.length cI38) il.length ((Lib.byteCells il)) :: .row BY 1 (.slice sO39 ol.length cO40) ol.length ((Lib.byteCells ol)) :: .obj g4 (.cells #[.slice none 0 0, .slice none 0 0, .slice none 0 0] 37) :: .obj g2 (.cells #[.slice sF fs.length cF_, .slice sI il.length cI, .slice sO ol.length cO] 37) :: D) := by
             have h9 := hM
             rw [Nat.zero_add, List.nil_append] at h9
             exact h9
           obtain ⟨so59, ca60, rfl⟩ := owns_sliceE (hM.has 0 rfl)
           refine seq_do (v := .agg #[.string nm, .slice so59 d.length ca60]) hA rfl rfl rfl (does_build rfl (fun w => by kernel_rfl)) ?_
           intro a hA
           refine s_new (vs := [.string (⟨#[]⟩), .slice none 0 0]) (t := 88) hA hM rfl rfl rfl (fun g => .pointer (some ⟨g, 0, none⟩)) (does_alloc (z := .agg #[.string (⟨#[]⟩), .slice none 0 0]) (by kernel_rfl) rfl) (by decide) ?_
           intro g61 w62 hM a hA
           refine s_store (us := [.string nm, .slice so59 d.length ca60]) (L' := (.obj g61 (.cells #[.string nm, .slice so59 d.length ca60] 88) :: .row BY 1 (.slice so59 d.length ca60) d.length ((Lib.byteCells d)) :: .row 88 2 (.slice (some ⟨g52, 0, none⟩) 0 0) 0 ([]) :: .row 88 2 (.slice so48 ((wthG nm gs).length) ca49) ((wthG nm gs).length) ((cellsF (wthG nm gs))) :: .obj g42 (.cells #[.slice sF35 fs.length cF36, .slice sI37 il.length cI38, .slice sO39 ol.length cO40] 37) :: .row 88 2 (.slice sF35 fs.length cF36) fs.length ((cellsF gs)) :: .row BY 1 (.slice sI37 il.length cI38) il.length ((Lib.byteCells il)) :: .row BY 1 (.slice sO39 ol.length cO40) ol.length ((Lib.byteCells ol)) :: .obj g4 (.cells #[.slice none 0 0, .slice none 0 0, .slice none 0 0] 37) :: .obj g2 (.cells #[.slice sF fs.length cF_, .slice sI il.length cI, .slice sO ol.length cO] 37) :: D)) hA hM rfl rfl (m_store rfl rfl rfl (by kernel_rfl) hM 0 rfl rfl rfl) 0 rfl rfl rfl ?_
           intro w63 hM
           refine seq_end ?_
           refine hK54 _ _ ?_
           refine wp_seq_k (fun K64 hK64 => ?_)
           refine wp_region_lit ?_
           refine seq_do hA rfl rfl rfl (does_assign rfl) ?_
           intro a hA
           refine seq_end ?_
           refine hK64 _ _ ?_
           refine wp_seq_k (fun K65 hK65 => ?_)
           refine wp_seq_k (fun K66 hK66 => ?_)
           refine wp_region_lit ?_
           refine seq_do hA rfl rfl rfl (does_assign rfl) ?_
           intro a hA
           refine seq_end ?_
           refine hK66 _ _ ?_
           refine wp_block ?_
           refine wp_loop_n (fun m_ a w1 => ∃ (i : Nat) (acc : List Gf) (va : Value) (pb : Bool), m_ = (wthG nm gs).length - i ∧ ((pb = false → acc ++ insL nm (nm, .slice so59 d.length ca60, d) ((wthG nm gs).drop i) = insL nm (nm, .slice so59 d.length ca60, d) (wthG nm gs)) ∧ (pb = true → acc ++ (wthG nm gs).drop i = insL nm (nm, .slice so59 d.length ca60, d) (wthG nm gs)) ∧ i ≤ (wthG nm gs).length ∧ acc.length ≤ 2 * i + 1) ∧ Sl a 86 [(0, .agg #[.slice sF fs.length cF_, .slice sI il.length cI, .slice sO ol.length cO]), (1, .string nm), (2, .slice so d.length cd), (3, .pointer (some ⟨g2, 0, none⟩)), (6, .pointer (some ⟨g4, 0, none⟩)), (7, .int .i64 0), (8, .pointer (some ⟨g42, 0, none⟩)), (9, .slice so48 ((wthG nm gs).length) ca49), (10, va), (11, .pointer (some ⟨g61, 0, none⟩)), (12, .bool pb), (13, .int .i64 (((i : Nat) : Int))), (14, .agg #[.slice sF fs.length cF_, .slice sI il.length cI, .slice sO ol.length cO]), (15, .bool true), (16, .bool false), (18, .string nm), (19, .bool true), (20, .bool false), (22, .slice so d.length cd), (23, .int .i64 (((d.length : Nat) : Int))), (24, .bool false), (26, .agg #[.slice sF fs.length cF_, .slice sI il.length cI, .slice sO ol.length cO]), (27, .string nm), (28, .int .i64 (-1)), (29, .bool true), (30, .bool true), (31, .pointer (some ⟨g2, 0, none⟩)), (32, .slice sF fs.length cF_), (33, .int .i64 (((fs.length : Nat) : Int))), (34, .bool false), (35, .bool false), (37, .agg #[.slice sF fs.length cF_, .slice sI il.length cI, .slice sO ol.length cO]), (38, .agg #[.slice sF35 fs.length cF36, .slice sI37 il.length cI38, .slice sO39 ol.length cO40]), (39, .pointer (some ⟨g42, 0, none⟩)), (40, .slice sF35 fs.length cF36), (41, .string nm), (42, .slice so48 ((wthG nm gs).length) ca49), (43, .slice (some ⟨g52, 0, none⟩) 0 0), (44, .string nm), (45, .slice (some ⟨g55, 0, none⟩) 0 0), (46, .slice so d.length cd), (47, .slice so59 d.length ca60), (48, .agg #[.string nm, .slice so59 d.length ca60])] ∧ Mg w w1 (.obj g61 (.cells #[.string nm, .slice so59 d.length ca60] 88) :: .row BY 1 (.slice so59 d.length ca60) d.length ((Lib.byteCells d)) :: .row 88 2 (va) acc.length ((cellsF acc)) :: .row 88 2 (.slice so48 ((wthG nm gs).length) ca49) ((wthG nm gs).length) ((cellsF (wthG nm gs))) :: .obj g42 (.cells #[.slice sF35 fs.length cF36, .slice sI37 il.length cI38, .slice sO39 ol.length cO40] 37) :: .row 88 2 (.slice sF35 fs.length cF36) fs.length ((cellsF gs)) :: .row BY 1 (.slice sI37 il.length cI38) il.length ((Lib.byteCells il)) :: .row BY 1 (.slice sO39 ol.length cO40) ol.length ((Lib.byteCells ol)) :: .obj g4 (.cells #[.slice none 0 0, .slice none 0 0, .slice none 0 0] 37) :: .obj g2 (.cells #[.slice sF fs.length cF_, .slice sI il.length cI, .slice sO ol.length cO] 37) :: D)) _ ⟨0, [], .slice (some ⟨g52, 0, none⟩) 0 0, false, rfl, ⟨fun _ => rfl, (fun h => (by cases h)), Nat.zero_le _, Nat.zero_le _⟩, hA.keep _ ⟨rfl, rfl, rfl, rfl, rfl, rfl, rfl, rfl, rfl, rfl, rfl, rfl, rfl, rfl, rfl, rfl, rfl, rfl, rfl, rfl, rfl, rfl, rfl, rfl, rfl, rfl, rfl, rfl, rfl, rfl, rfl, rfl, rfl, rfl, rfl, rfl, rfl, rfl, rfl, rfl, rfl, rfl, rfl, trivial⟩, hM⟩ ?_
           clear hM hA
           rintro m_ a w67 ⟨i, acc, va, pb, rfl, hinv69, hA, hM⟩ K68 hK68
           obtain ⟨hra, hrb, hi9, hacc⟩ := hinv69
           have hwl := wthG_len nm gs
           refine wp_seq_k (fun K70 hK70 => ?_)
           refine wp_seq_k (fun K71 hK71 => ?_)
           refine wp_region_lit ?_
           refine seq_do hA rfl rfl rfl (does_move rfl) ?_
           intro a hA
           refine seq_do hA rfl rfl rfl (does_move rfl) ?_
           intro a hA
           refine seq_do (v := .int .i64 ((((wthG nm gs).length : Nat) : Int))) hA rfl rfl rfl (does_len Try.underlying35 rfl) ?_
           intro a hA
           rcases Bool.eq_false_or_eq_true (decide (((i : Nat) : Int) < (((wthG nm gs).length : Nat) : Int))) with hb72 | hb72
           · have hb72' := of_decide_eq_true hb72
             refine seq_do (v := .bool true) hA rfl rfl rfl (does_bin rfl rfl (fun w => (bin_lss w).trans (by rw [hb72]))) ?_
             intro a hA
             refine seq_end ?_
             refine hK71 _ _ ?_
             refine wp_cond_true (hA.ev rfl) ?_
             refine wp_skip ?_
             refine hK70 _ _ ?_
             refine wp_seq_k (fun K73 hK73 => ?_)
             refine wp_block ?_
             refine wp_seq_k (fun K74 hK74 => ?_)
             refine wp_seq_k (fun K75 hK75 => ?_)
             refine wp_region_lit ?_
             refine seq_do hA rfl rfl rfl (does_move rfl) ?_
             intro a hA
             rcases pb with _ | _
             · obtain ⟨sv76, cv77, rfl⟩ := owns_sliceE (hM.has 2 rfl)
               refine seq_do (v := .bool true) hA rfl rfl rfl (does_un rfl un_not) ?_
               intro a hA
               refine seq_do hA rfl rfl rfl (does_move rfl) ?_
               intro a hA
               refine seq_do hA rfl rfl rfl (does_move rfl) ?_
               intro a hA
               refine seq_do hA rfl rfl rfl (does_move rfl) ?_
               intro a hA
               obtain ⟨gn78, gv79, gd80, hg81⟩ := gf_get (gs := wthG nm gs) (i := i) (by omega)
               obtain ⟨go82, hgo83⟩ := row_addr hM 3 rfl (by omega)
               have h1g84 := gs_one hM (fun c hc => (List.mem_cons_of_mem _ (List.mem_cons_of_mem _ (List.mem_cons_of_mem _ (List.mem_cons_of_mem _ (List.mem_cons_of_mem _ (List.mem_cons_of_mem _ (List.mem_cons_of_mem _ (List.mem_cons_of_mem _ (List.mem_cons_of_mem _ (List.mem_cons_of_mem _ hc))))))))))) hGD _ (List.mem_filter.1 (List.mem_of_getElem? hg81)).1
               refine seq_do (v := .pointer (some ⟨go82, i * 2, none⟩)) hA rfl rfl rfl (does_indexX Try.underlying35 (by kernel_rfl) rfl rfl rfl hgo83 (show i < (wthG nm gs).length by omega)) ?_
               intro a hA
               refine seq_do (v := .pointer (some ⟨go82, i * 2, none⟩)) hA rfl rfl rfl (does_field Wk_fld_88_0 rfl rfl) ?_
               intro a hA
               refine seq_do (v := .string gn78) hA rfl rfl rfl (m_loadX hM 3 rfl hgo83 (cellsF_at _ _ _ hg81).1 Wk_is1_9 rfl) ?_
               intro a hA
               refine seq_do hA rfl rfl rfl (does_move rfl) ?_
               intro a hA
               rcases Bool.eq_false_or_eq_true (ltN nm gn78) with hb85 | hb85
               · refine seq_do (v := .bool true) hA rfl rfl rfl (does_bin rfl rfl (fun w => (bin_gtrS w).trans (by rw [leq_not, hb85]; rfl))) ?_
                 intro a hA
                 refine seq_do (v := .bool true) hA rfl rfl rfl (does_pick rfl rfl rfl rfl) ?_
                 intro a hA
                 refine seq_end ?_
                 refine hK75 _ _ ?_
                 refine wp_cond_true (hA.ev rfl) ?_
                 refine wp_seq_k (fun K86 hK86 => ?_)
                 refine wp_region_lit ?_
                 refine seq_do hA rfl rfl rfl (does_move rfl) ?_
                 intro a hA
                 refine seq_do hA rfl rfl rfl (m_loadS hM Wk_isS_88 rfl 0 rfl (cs := [.string nm, .slice so59 d.length ca60]) rfl rfl) ?_
                 intro a hA
                 refine s_litE (e := 88) (sz := 2) (m := 1) (vs := [.string nm, .slice so59 d.length ca60]) hA hM rfl rfl rfl (does_buildSlice rfl (by kernel_rfl)) rfl rfl (.inl (by decide)) ?_
                 intro g87 w88 hM a hA
                 refine s_appendE (e := 88) (sz := 2) (k := 3) (q := acc.length) (m := 1) (xs := (cellsF acc)) (news := [.string nm, .slice so59 d.length ca60]) (L' := fun v89 => (.row 88 2 (.slice (some ⟨g87, 0, none⟩) 1 1) 1 ([.string nm, .slice so59 d.length ca60]) :: .obj g61 (.cells #[.string nm, .slice so59 d.length ca60] 88) :: .row BY 1 (.slice so59 d.length ca60) d.length ((Lib.byteCells d)) :: .row 88 2 (v89) ((acc.length + 1)) (((cellsF acc) ++ [.string nm, .slice so59 d.length ca60])) :: .row 88 2 (.slice so48 ((wthG nm gs).length) ca49) ((wthG nm gs).length) ((cellsF (wthG nm gs))) :: .obj g42 (.cells #[.slice sF35 fs.length cF36, .slice sI37 il.length cI38, .slice sO39 ol.length cO40] 37) :: .row 88 2 (.slice sF35 fs.length cF36) fs.length ((cellsF gs)) :: .row BY 1 (.slice sI37 il.length cI38) il.length ((Lib.byteCells il)) :: .row BY 1 (.slice sO39 ol.length cO40) ol.length ((Lib.byteCells ol)) :: .obj g4 (.cells #[.slice none 0 0, .slice none 0 0, .slice none 0 0] 37) :: .obj g2 (.cells #[.slice sF fs.length cF_, .slice sI il.length cI, .slice sO ol.length cO] 37) :: D)) hA rfl rfl rfl (m_appendB (z := .agg #[.string ⟨#[]⟩, .slice none 0 0]) (by_ := 40) Try.underlying35 (by kernel_rfl) rfl rfl hM 3 rfl rfl 0 rfl rfl (fun u hu => List.all_eq_true.1 (rfl : ([.string nm, .slice so59 d.length ca60] : List Value).all Value.oneCell' = true) u hu) (by decide) (by omega) (by omega)) (fun _ => rfl) ?_
                 intro v89 w90 hM a hA
                 obtain ⟨so91, ca92, rfl⟩ := owns_sliceE (hM.has 3 rfl)
                 refine seq_do hA rfl rfl rfl (does_assign rfl) ?_
                 intro a hA
                 refine seq_end ?_
                 refine hK86 _ _ ?_
                 refine wp_region_lit ?_
                 refine seq_do hA rfl rfl rfl (does_assign rfl) ?_
                 intro a hA
                 refine seq_end ?_
                 refine hK74 _ _ ?_
                 refine wp_region_lit ?_
                 refine seq_do hA rfl rfl rfl (does_move rfl) ?_
                 intro a hA
                 refine seq_do hA rfl rfl rfl (does_move rfl) ?_
                 intro a hA
                 refine seq_do hA rfl rfl rfl (does_move rfl) ?_
                 intro a hA
                 refine seq_do (v := .pointer (some ⟨go82, i * 2, none⟩)) hA rfl rfl rfl (does_indexX Try.underlying35 (by kernel_rfl) rfl rfl rfl hgo83 (show i < (wthG nm gs).length by omega)) ?_
                 intro a hA
                 refine seq_do (v := .agg #[.string gn78, gv79]) hA rfl rfl rfl (m_loadX2 hM 4 rfl hgo83 hg81 Wk_isS_88 rfl) ?_
                 intro a hA
                 refine s_litE (e := 88) (sz := 2) (m := 1) (vs := [.string gn78, gv79]) hA hM rfl rfl rfl (does_buildSlice rfl (by kernel_rfl)) rfl rfl (.inl (by decide)) ?_
                 intro g93 w94 hM a hA
                 refine s_appendE (e := 88) (sz := 2) (k := 4) (q := (acc.length + 1)) (m := 1) (xs := ((cellsF acc) ++ [.string nm, .slice so59 d.length ca60])) (news := [.string gn78, gv79]) (L' := fun v95 => (.row 88 2 (.slice (some ⟨g93, 0, none⟩) 1 1) 1 ([.string gn78, gv79]) :: .row 88 2 (.slice (some ⟨g87, 0, none⟩) 1 1) 1 ([.string nm, .slice so59 d.length ca60]) :: .obj g61 (.cells #[.string nm, .slice so59 d.length ca60] 88) :: .row BY 1 (.slice so59 d.length ca60) d.length ((Lib.byteCells d)) :: .row 88 2 (v95) (((acc.length + 1) + 1)) ((((cellsF acc) ++ [.string nm, .slice so59 d.length ca60]) ++ [.string gn78, gv79])) :: .row 88 2 (.slice so48 ((wthG nm gs).length) ca49) ((wthG nm gs).length) ((cellsF (wthG nm gs))) :: .obj g42 (.cells #[.slice sF35 fs.length cF36, .slice sI37 il.length cI38, .slice sO39 ol.length cO40] 37) :: .row 88 2 (.slice sF35 fs.length cF36) fs.length ((cellsF gs)) :: .row BY 1 (.slice sI37 il.length cI38) il.length ((Lib.byteCells il)) :: .row BY 1 (.slice sO39 ol.length cO40) ol.length ((Lib.byteCells ol)) :: .obj g4 (.cells #[.slice none 0 0, .slice none 0 0, .slice none 0 0] 37) :: .obj g2 (.cells #[.slice sF fs.length cF_, .slice sI il.length cI, .slice sO ol.length cO] 37) :: D)) hA rfl rfl rfl (m_appendB (z := .agg #[.string ⟨#[]⟩, .slice none 0 0]) (by_ := 40) Try.underlying35 (by kernel_rfl) rfl rfl hM 4 rfl rfl 0 rfl rfl (one2 h1g84) (by decide) (by omega) (by omega)) (fun _ => rfl) ?_
                 intro v95 w96 hM a hA
                 obtain ⟨so97, ca98, rfl⟩ := owns_sliceE (hM.has 4 rfl)
                 refine seq_do hA rfl rfl rfl (does_assign rfl) ?_
                 intro a hA
                 refine seq_end ?_
                 refine hK73 _ _ ?_
                 refine wp_region_lit ?_
                 refine seq_do hA rfl rfl rfl (does_move rfl) ?_
                 intro a hA
                 refine seq_do (v := .int .i64 (((i + 1 : Nat) : Int))) hA rfl rfl rfl (does_bin rfl rfl (ar_add ((in_i64 (by omega) (by omega)).trans (by omega)))) ?_
                 intro a hA
                 refine seq_do hA rfl rfl rfl (does_assign rfl) ?_
                 intro a hA
                 refine seq_end ?_
                 replace hM : Mg w w96 (.obj g61 (.cells #[.string nm, .slice so59 d.length ca60] 88) :: .row BY 1 (.slice so59 d.length ca60) d.length ((Lib.byteCells d)) :: .row 88 2 (.slice so97 (((acc.length + 1) + 1)) ca98) ((acc ++ [(nm, .slice so59 d.length ca60, d), (gn78, gv79, gd80)]).length) ((cellsF (acc ++ [(nm, .slice so59 d.length ca60, d), (gn78, gv79, gd80)]))) :: .row 88 2 (.slice so48 ((wthG nm gs).length) ca49) ((wthG nm gs).length) ((cellsF (wthG nm gs))) :: .obj g42 (.cells #[.slice sF35 fs.length cF36, .slice sI37 il.length cI38, .slice sO39 ol.length cO40] 37) :: .row 88 2 (.slice sF35 fs.length cF36) fs.length ((cellsF gs)) :: .row BY 1 (.slice sI37 il.length cI38) il.length ((Lib.byteCells il)) :: .row BY 1 (.slice sO39 ol.length cO40) ol.length ((Lib.byteCells ol)) :: .obj g4 (.cells #[.slice none 0 0, .slice none 0 0, .slice none 0 0] 37) :: .obj g2 (.cells #[.slice sF fs.length cF_, .slice sI il.length cI, .slice sO ol.length cO] 37) :: D) := by
                   have h9 := hM.sub (.cons _ (.cons _ (.cons_cons _ (.cons_cons _ (.cons_cons _ (.cons_cons _ (.cons_cons _ (.cons_cons _ (.cons_cons _ (.cons_cons _ (.cons_cons _ (.cons_cons _ (.refl _)))))))))))))
                   rw [cellsF_append, List.length_append]
                   simpa [cellsF, List.append_assoc, Nat.add_assoc] using h9
                 refine hK68 _ _ _ (by omega) ⟨i + 1, acc ++ [(nm, .slice so59 d.length ca60, d), (gn78, gv79, gd80)], .slice so97 (((acc.length + 1) + 1)) ca98, true, rfl, ⟨(fun h => (by cases h)), (fun _ => (by rw [← hra rfl, insL_yes hg81 hb85, drop_gf hg81, List.append_assoc]; rfl)), by omega, by rw [List.length_append]; simp only [List.length_cons, List.length_nil]; omega⟩, hA.keep _ ⟨rfl, rfl, rfl, rfl, rfl, rfl, rfl, rfl, rfl, rfl, rfl, rfl, rfl, rfl, rfl, rfl, rfl, rfl, rfl, rfl, rfl, rfl, rfl, rfl, rfl, rfl, rfl, rfl, rfl, rfl, rfl, rfl, rfl, rfl, rfl, rfl, rfl, rfl, rfl, rfl, rfl, rfl, rfl, trivial⟩, hM⟩
               · refine seq_do (v := .bool false) hA rfl rfl rfl (does_bin rfl rfl (fun w => (bin_gtrS w).trans (by rw [leq_not, hb85]; rfl))) ?_
                 intro a hA
                 refine seq_do (v := .bool false) hA rfl rfl rfl (does_pick rfl rfl rfl rfl) ?_
                 intro a hA
                 refine seq_end ?_
                 refine hK75 _ _ ?_
                 refine wp_cond_false (hA.ev rfl) ?_
                 refine wp_skip ?_
                 refine hK74 _ _ ?_
                 refine wp_region_lit ?_
                 refine seq_do hA rfl rfl rfl (does_move rfl) ?_
                 intro a hA
                 refine seq_do hA rfl rfl rfl (does_move rfl) ?_
                 intro a hA
                 refine seq_do hA rfl rfl rfl (does_move rfl) ?_
                 intro a hA
                 refine seq_do (v := .pointer (some ⟨go82, i * 2, none⟩)) hA rfl rfl rfl (does_indexX Try.underlying35 (by kernel_rfl) rfl rfl rfl hgo83 (show i < (wthG nm gs).length by omega)) ?_
                 intro a hA
                 refine seq_do (v := .agg #[.string gn78, gv79]) hA rfl rfl rfl (m_loadX2 hM 3 rfl hgo83 hg81 Wk_isS_88 rfl) ?_
                 intro a hA
                 refine s_litE (e := 88) (sz := 2) (m := 1) (vs := [.string gn78, gv79]) hA hM rfl rfl rfl (does_buildSlice rfl (by kernel_rfl)) rfl rfl (.inl (by decide)) ?_
                 intro g99 w100 hM a hA
                 refine s_appendE (e := 88) (sz := 2) (k := 3) (q := acc.length) (m := 1) (xs := (cellsF acc)) (news := [.string gn78, gv79]) (L' := fun v101 => (.row 88 2 (.slice (some ⟨g99, 0, none⟩) 1 1) 1 ([.string gn78, gv79]) :: .obj g61 (.cells #[.string nm, .slice so59 d.length ca60] 88) :: .row BY 1 (.slice so59 d.length ca60) d.length ((Lib.byteCells d)) :: .row 88 2 (v101) ((acc.length + 1)) (((cellsF acc) ++ [.string gn78, gv79])) :: .row 88 2 (.slice so48 ((wthG nm gs).length) ca49) ((wthG nm gs).length) ((cellsF (wthG nm gs))) :: .obj g42 (.cells #[.slice sF35 fs.length cF36, .slice sI37 il.length cI38, .slice sO39 ol.length cO40] 37) :: .row 88 2 (.slice sF35 fs.length cF36) fs.length ((cellsF gs)) :: .row BY 1 (.slice sI37 il.length cI38) il.length ((Lib.byteCells il)) :: .row BY 1 (.slice sO39 ol.length cO40) ol.length ((Lib.byteCells ol)) :: .obj g4 (.cells #[.slice none 0 0, .slice none 0 0, .slice none 0 0] 37) :: .obj g2 (.cells #[.slice sF fs.length cF_, .slice sI il.length cI, .slice sO ol.length cO] 37) :: D)) hA rfl rfl rfl (m_appendB (z := .agg #[.string ⟨#[]⟩, .slice none 0 0]) (by_ := 40) Try.underlying35 (by kernel_rfl) rfl rfl hM 3 rfl rfl 0 rfl rfl (one2 h1g84) (by decide) (by omega) (by omega)) (fun _ => rfl) ?_
                 intro v101 w102 hM a hA
                 obtain ⟨so103, ca104, rfl⟩ := owns_sliceE (hM.has 3 rfl)
                 refine seq_do hA rfl rfl rfl (does_assign rfl) ?_
                 intro a hA
                 refine seq_end ?_
                 refine hK73 _ _ ?_
                 refine wp_region_lit ?_
                 refine seq_do hA rfl rfl rfl (does_move rfl) ?_
                 intro a hA
                 refine seq_do (v := .int .i64 (((i + 1 : Nat) : Int))) hA rfl rfl rfl (does_bin rfl rfl (ar_add ((in_i64 (by omega) (by omega)).trans (by omega)))) ?_
                 intro a hA
                 refine seq_do hA rfl rfl rfl (does_assign rfl) ?_
                 intro a hA
                 refine seq_end ?_
                 replace hM : Mg w w102 (.obj g61 (.cells #[.string nm, .slice so59 d.length ca60] 88) :: .row BY 1 (.slice so59 d.length ca60) d.length ((Lib.byteCells d)) :: .row 88 2 (.slice so103 ((acc.length + 1)) ca104) ((acc ++ [(gn78, gv79, gd80)]).length) ((cellsF (acc ++ [(gn78, gv79, gd80)]))) :: .row 88 2 (.slice so48 ((wthG nm gs).length) ca49) ((wthG nm gs).length) ((cellsF (wthG nm gs))) :: .obj g42 (.cells #[.slice sF35 fs.length cF36, .slice sI37 il.length cI38, .slice sO39 ol.length cO40] 37) :: .row 88 2 (.slice sF35 fs.length cF36) fs.length ((cellsF gs)) :: .row BY 1 (.slice sI37 il.length cI38) il.length ((Lib.byteCells il)) :: .row BY 1 (.slice sO39 ol.length cO40) ol.length ((Lib.byteCells ol)) :: .obj g4 (.cells #[.slice none 0 0, .slice none 0 0, .slice none 0 0] 37) :: .obj g2 (.cells #[.slice sF fs.length cF_, .slice sI il.length cI, .slice sO ol.length cO] 37) :: D) := by
                   have h9 := hM.sub (.cons _ (.cons_cons _ (.cons_cons _ (.cons_cons _ (.cons_cons _ (.cons_cons _ (.cons_cons _ (.cons_cons _ (.cons_cons _ (.cons_cons _ (.cons_cons _ (.refl _))))))))))))
                   rw [cellsF_append, List.length_append]
                   simpa [cellsF, List.append_assoc, Nat.add_assoc] using h9
                 refine hK68 _ _ _ (by omega) ⟨i + 1, acc ++ [(gn78, gv79, gd80)], .slice so103 ((acc.length + 1)) ca104, false, rfl, ⟨(fun _ => (by rw [← hra rfl, insL_no hg81 hb85, List.append_assoc]; rfl)), (fun h => (by cases h)), by omega, by rw [List.length_append]; simp only [List.length_cons, List.length_nil]; omega⟩, hA.keep _ ⟨rfl, rfl, rfl, rfl, rfl, rfl, rfl, rfl, rfl, rfl, rfl, rfl, rfl, rfl, rfl, rfl, rfl, rfl, rfl, rfl, rfl, rfl, rfl, rfl, rfl, rfl, rfl, rfl, rfl, rfl, rfl, rfl, rfl, rfl, rfl, rfl, rfl, rfl, rfl, rfl, rfl, rfl, rfl, trivial⟩, hM⟩
             · obtain ⟨sv105, cv106, rfl⟩ := owns_sliceE (hM.has 2 rfl)
               refine seq_do (v := .bool false) hA rfl rfl rfl (does_un rfl un_not) ?_
               intro a hA
               refine seq_do hA rfl rfl rfl (does_move rfl) ?_
               intro a hA
               refine seq_skip hA rfl rfl rfl ?_
               intro a hA
               refine seq_skip hA rfl rfl rfl ?_
               intro a hA
               refine seq_skip hA rfl rfl rfl ?_
               intro a hA
               refine seq_skip hA rfl rfl rfl ?_
               intro a hA
               refine seq_skip hA rfl rfl rfl ?_
               intro a hA
               refine seq_skip hA rfl rfl rfl ?_
               intro a hA
               refine seq_skip hA rfl rfl rfl ?_
               intro a hA
               refine seq_do (v := .bool false) hA rfl rfl rfl (does_pick rfl rfl rfl rfl) ?_
               intro a hA
               refine seq_end ?_
               refine hK75 _ _ ?_
               refine wp_cond_false (hA.ev rfl) ?_
               refine wp_skip ?_
               refine hK74 _ _ ?_
               refine wp_region_lit ?_
               refine seq_do hA rfl rfl rfl (does_move rfl) ?_
               intro a hA
               refine seq_do hA rfl rfl rfl (does_move rfl) ?_
               intro a hA
               refine seq_do hA rfl rfl rfl (does_move rfl) ?_
               intro a hA
               obtain ⟨gn107, gv108, gd109, hg110⟩ := gf_get (gs := wthG nm gs) (i := i) (by omega)
               obtain ⟨go111, hgo112⟩ := row_addr hM 3 rfl (by omega)
               have h1g113 := gs_one hM (fun c hc => (List.mem_cons_of_mem _ (List.mem_cons_of_mem _ (List.mem_cons_of_mem _ (List.mem_cons_of_mem _ (List.mem_cons_of_mem _ (List.mem_cons_of_mem _ (List.mem_cons_of_mem _ (List.mem_cons_of_mem _ (List.mem_cons_of_mem _ (List.mem_cons_of_mem _ hc))))))))))) hGD _ (List.mem_filter.1 (List.mem_of_getElem? hg110)).1
               refine seq_do (v := .pointer (some ⟨go111, i * 2, none⟩)) hA rfl rfl rfl (does_indexX Try.underlying35 (by kernel_rfl) rfl rfl rfl hgo112 (show i < (wthG nm gs).length by omega)) ?_
               intro a hA
               refine seq_do (v := .agg #[.string gn107, gv108]) hA rfl rfl rfl (m_loadX2 hM 3 rfl hgo112 hg110 Wk_isS_88 rfl) ?_
               intro a hA
               refine s_litE (e := 88) (sz := 2) (m := 1) (vs := [.string gn107, gv108]) hA hM rfl rfl rfl (does_buildSlice rfl (by kernel_rfl)) rfl rfl (.inl (by decide)) ?_
               intro g114 w115 hM a hA
               refine s_appendE (e := 88) (sz := 2) (k := 3) (q := acc.length) (m := 1) (xs := (cellsF acc)) (news := [.string gn107, gv108]) (L' := fun v116 => (.row 88 2 (.slice (some ⟨g114, 0, none⟩) 1 1) 1 ([.string gn107, gv108]) :: .obj g61 (.cells #[.string nm, .slice so59 d.length ca60] 88) :: .row BY 1 (.slice so59 d.length ca60) d.length ((Lib.byteCells d)) :: .row 88 2 (v116) ((acc.length + 1)) (((cellsF acc) ++ [.string gn107, gv108])) :: .row 88 2 (.slice so48 ((wthG nm gs).length) ca49) ((wthG nm gs).length) ((cellsF (wthG nm gs))) :: .obj g42 (.cells #[.slice sF35 fs.length cF36, .slice sI37 il.length cI38, .slice sO39 ol.length cO40] 37) :: .row 88 2 (.slice sF35 fs.length cF36) fs.length ((cellsF gs)) :: .row BY 1 (.slice sI37 il.length cI38) il.length ((Lib.byteCells il)) :: .row BY 1 (.slice sO39 ol.length cO40) ol.length ((Lib.byteCells ol)) :: .obj g4 (.cells #[.slice none 0 0, .slice none 0 0, .slice none 0 0] 37) :: .obj g2 (.cells #[.slice sF fs.length cF_, .slice sI il.length cI, .slice sO ol.length cO] 37) :: D)) hA rfl rfl rfl (m_appendB (z := .agg #[.string ⟨#[]⟩, .slice none 0 0]) (by_ := 40) Try.underlying35 (by kernel_rfl) rfl rfl hM 3 rfl rfl 0 rfl rfl (one2 h1g113) (by decide) (by omega) (by omega)) (fun _ => rfl) ?_
               intro v116 w117 hM a hA
               obtain ⟨so118, ca119, rfl⟩ := owns_sliceE (hM.has 3 rfl)
               refine seq_do hA rfl rfl rfl (does_assign rfl) ?_
               intro a hA
               refine seq_end ?_
               refine hK73 _ _ ?_
               refine wp_region_lit ?_
               refine seq_do hA rfl rfl rfl (does_move rfl) ?_
               intro a hA
               refine seq_do (v := .int .i64 (((i + 1 : Nat) : Int))) hA rfl rfl rfl (does_bin rfl rfl (ar_add ((in_i64 (by omega) (by omega)).trans (by omega)))) ?_
               intro a hA
               refine seq_do hA rfl rfl rfl (does_assign rfl) ?_
               intro a hA
               refine seq_end ?_
               replace hM : Mg w w117 (.obj g61 (.cells #[.string nm, .slice so59 d.length ca60] 88) :: .row BY 1 (.slice so59 d.length ca60) d.length ((Lib.byteCells d)) :: .row 88 2 (.slice so118 ((acc.length + 1)) ca119) ((acc ++ [(gn107, gv108, gd109)]).length) ((cellsF (acc ++ [(gn107, gv108, gd109)]))) :: .row 88 2 (.slice so48 ((wthG nm gs).length) ca49) ((wthG nm gs).length) ((cellsF (wthG nm gs))) :: .obj g42 (.cells #[.slice sF35 fs.length cF36, .slice sI37 il.length cI38, .slice sO39 ol.length cO40] 37) :: .row 88 2 (.slice sF35 fs.length cF36) fs.length ((cellsF gs)) :: .row BY 1 (.slice sI37 il.length cI38) il.length ((Lib.byteCells il)) :: .row BY 1 (.slice sO39 ol.length cO40) ol.length ((Lib.byteCells ol)) :: .obj g4 (.cells #[.slice none 0 0, .slice none 0 0, .slice none 0 0] 37) :: .obj g2 (.cells #[.slice sF fs.length cF_, .slice sI il.length cI, .slice sO ol.length cO] 37) :: D) := by
                 have h9 := hM.sub (.cons _ (.cons_cons _ (.cons_cons _ (.cons_cons _ (.cons_cons _ (.cons_cons _ (.cons_cons _ (.cons_cons _ (.cons_cons _ (.cons_cons _ (.cons_cons _ (.refl _))))))))))))
                 rw [cellsF_append, List.length_append]
                 simpa [cellsF, List.append_assoc, Nat.add_assoc] using h9
               refine hK68 _ _ _ (by omega) ⟨i + 1, acc ++ [(gn107, gv108, gd109)], .slice so118 ((acc.length + 1)) ca119, true, rfl, ⟨(fun h => (by cases h)), (fun _ => (by rw [← hrb rfl, drop_gf hg110, List.append_assoc]; rfl)), by omega, by rw [List.length_append]; simp only [List.length_cons, List.length_nil]; omega⟩, hA.keep _ ⟨rfl, rfl, rfl, rfl, rfl, rfl, rfl, rfl, rfl, rfl, rfl, rfl, rfl, rfl, rfl, rfl, rfl, rfl, rfl, rfl, rfl, rfl, rfl, rfl, rfl, rfl, rfl, rfl, rfl, rfl, rfl, rfl, rfl, rfl, rfl, rfl, rfl, rfl, rfl, rfl, rfl, rfl, rfl, trivial⟩, hM⟩
           · have hb72' := of_decide_eq_false hb72
             refine seq_do (v := .bool false) hA rfl rfl rfl (does_bin rfl rfl (fun w => (bin_lss w).trans (by rw [hb72]))) ?_
             intro a hA
             refine seq_end ?_
             refine hK71 _ _ ?_
             refine wp_cond_false (hA.ev rfl) ?_
             refine wp_exit ?_
             refine hK65 _ _ ?_
             refine wp_seq_k (fun K120 hK120 => ?_)
             refine wp_seq_k (fun K121 hK121 => ?_)
             refine wp_region_lit ?_
             refine seq_do hA rfl rfl rfl (does_move rfl) ?_
             intro a hA
             rcases pb with _ | _
             · obtain ⟨sv122, cv123, rfl⟩ := owns_sliceE (hM.has 2 rfl)
               refine seq_do (v := .bool true) hA rfl rfl rfl (does_un rfl un_not) ?_
               intro a hA
               refine seq_end ?_
               refine hK121 _ _ ?_
               refine wp_cond_true (hA.ev rfl) ?_
               refine wp_region_lit ?_
               refine seq_do hA rfl rfl rfl (does_move rfl) ?_
               intro a hA
               refine seq_do hA rfl rfl rfl (m_loadS hM Wk_isS_88 rfl 0 rfl (cs := [.string nm, .slice so59 d.length ca60]) rfl rfl) ?_
               intro a hA
               refine s_litE (e := 88) (sz := 2) (m := 1) (vs := [.string nm, .slice so59 d.length ca60]) hA hM rfl rfl rfl (does_buildSlice rfl (by kernel_rfl)) rfl rfl (.inl (by decide)) ?_
               intro g124 w125 hM a hA
               refine s_appendE (e := 88) (sz := 2) (k := 3) (q := acc.length) (m := 1) (xs := (cellsF acc)) (news := [.string nm, .slice so59 d.length ca60]) (L' := fun v126 => (.row 88 2 (.slice (some ⟨g124, 0, none⟩) 1 1) 1 ([.string nm, .slice so59 d.length ca60]) :: .obj g61 (.cells #[.string nm, .slice so59 d.length ca60] 88) :: .row BY 1 (.slice so59 d.length ca60) d.length ((Lib.byteCells d)) :: .row 88 2 (v126) ((acc.length + 1)) (((cellsF acc) ++ [.string nm, .slice so59 d.length ca60])) :: .row 88 2 (.slice so48 ((wthG nm gs).length) ca49) ((wthG nm gs).length) ((cellsF (wthG nm gs))) :: .obj g42 (.cells #[.slice sF35 fs.length cF36, .slice sI37 il.length cI38, .slice sO39 ol.length cO40] 37) :: .row 88 2 (.slice sF35 fs.length cF36) fs.length ((cellsF gs)) :: .row BY 1 (.slice sI37 il.length cI38) il.length ((Lib.byteCells il)) :: .row BY 1 (.slice sO39 ol.length cO40) ol.length ((Lib.byteCells ol)) :: .obj g4 (.cells #[.slice none 0 0, .slice none 0 0, .slice none 0 0] 37) :: .obj g2 (.cells #[.slice sF fs.length cF_, .slice sI il.length cI, .slice sO ol.length cO] 37) :: D)) hA rfl rfl rfl (m_appendB (z := .agg #[.string ⟨#[]⟩, .slice none 0 0]) (by_ := 40) Try.underlying35 (by kernel_rfl) rfl rfl hM 3 rfl rfl 0 rfl rfl (fun u hu => List.all_eq_true.1 (rfl : ([.string nm, .slice so59 d.length ca60] : List Value).all Value.oneCell' = true) u hu) (by decide) (by omega) (by omega)) (fun _ => rfl) ?_
               intro v126 w127 hM a hA
               obtain ⟨so128, ca129, rfl⟩ := owns_sliceE (hM.has 3 rfl)
               refine seq_do hA rfl rfl rfl (does_assign rfl) ?_
               intro a hA
               refine seq_end ?_
               refine hK120 _ _ ?_
               refine wp_seq_k (fun K130 hK130 => ?_)
               refine wp_region_lit ?_
               refine seq_do hA rfl rfl rfl (does_move rfl) ?_
               intro a hA
               refine seq_do (v := .pointer (some ⟨g42, 0, none⟩)) hA rfl rfl rfl (does_field Wk_fld_37_0 rfl rfl) ?_
               intro a hA
               refine s_store (us := [.slice so128 ((acc.length + 1)) ca129, .slice sI37 il.length cI38, .slice sO39 ol.length cO40]) (L' := (.row 88 2 (.slice (some ⟨g124, 0, none⟩) 1 1) 1 ([.string nm, .slice so59 d.length ca60]) :: .obj g61 (.cells #[.string nm, .slice so59 d.length ca60] 88) :: .row BY 1 (.slice so59 d.length ca60) d.length ((Lib.byteCells d)) :: .row 88 2 (.slice so128 ((acc.length + 1)) ca129) ((acc.length + 1)) (((cellsF acc) ++ [.string nm, .slice so59 d.length ca60])) :: .row 88 2 (.slice so48 ((wthG nm gs).length) ca49) ((wthG nm gs).length) ((cellsF (wthG nm gs))) :: .obj g42 (.cells #[.slice so128 ((acc.length + 1)) ca129, .slice sI37 il.length cI38, .slice sO39 ol.length cO40] 37) :: .row 88 2 (.slice sF35 fs.length cF36) fs.length ((cellsF gs)) :: .row BY 1 (.slice sI37 il.length cI38) il.length ((Lib.byteCells il)) :: .row BY 1 (.slice sO39 ol.length cO40) ol.length ((Lib.byteCells ol)) :: .obj g4 (.cells #[.slice none 0 0, .slice none 0 0, .slice none 0 0] 37) :: .obj g2 (.cells #[.slice sF fs.length cF_, .slice sI il.length cI, .slice sO ol.length cO] 37) :: D)) hA hM rfl rfl (m_store rfl rfl rfl (by kernel_rfl) hM 5 rfl rfl rfl) 5 rfl rfl rfl ?_
               intro w131 hM
               refine seq_end ?_
               refine hK130 _ _ ?_
               refine wp_seq_k (fun K132 hK132 => ?_)
               refine wp_region_lit ?_
               refine seq_do hA rfl rfl rfl (m_loadS hM Wk_isS_37 rfl 5 rfl (cs := [.slice so128 ((acc.length + 1)) ca129, .slice sI37 il.length cI38, .slice sO39 ol.length cO40]) rfl rfl) ?_
               intro a hA
               refine s_store (us := [.slice so128 ((acc.length + 1)) ca129, .slice sI37 il.length cI38, .slice sO39 ol.length cO40]) (L' := (.row 88 2 (.slice (some ⟨g124, 0, none⟩) 1 1) 1 ([.string nm, .slice so59 d.length ca60]) :: .obj g61 (.cells #[.string nm, .slice so59 d.length ca60] 88) :: .row BY 1 (.slice so59 d.length ca60) d.length ((Lib.byteCells d)) :: .row 88 2 (.slice so128 ((acc.length + 1)) ca129) ((acc.length + 1)) (((cellsF acc) ++ [.string nm, .slice so59 d.length ca60])) :: .row 88 2 (.slice so48 ((wthG nm gs).length) ca49) ((wthG nm gs).length) ((cellsF (wthG nm gs))) :: .obj g42 (.cells #[.slice so128 ((acc.length + 1)) ca129, .slice sI37 il.length cI38, .slice sO39 ol.length cO40] 37) :: .row 88 2 (.slice sF35 fs.length cF36) fs.length ((cellsF gs)) :: .row BY 1 (.slice sI37 il.length cI38) il.length ((Lib.byteCells il)) :: .row BY 1 (.slice sO39 ol.length cO40) ol.length ((Lib.byteCells ol)) :: .obj g4 (.cells #[.slice so128 ((acc.length + 1)) ca129, .slice sI37 il.length cI38, .slice sO39 ol.length cO40] 37) :: .obj g2 (.cells #[.slice sF fs.length cF_, .slice sI il.length cI, .slice sO ol.length cO] 37) :: D)) hA hM rfl rfl (m_store rfl rfl rfl (by kernel_rfl) hM 9 rfl rfl rfl) 9 rfl rfl rfl ?_
               intro w133 hM
               refine seq_do hA rfl rfl rfl (does_assign rfl) ?_
               intro a hA
               refine seq_end ?_
               refine hK132 _ _ ?_
               refine wp_ret ?_
               refine hret _ _ ?_
               refine ends (v := .tuple #[.agg #[.slice so128 ((acc.length + 1)) ca129, .slice sI37 il.length cI38, .slice sO39 ol.length cO40], .int .i64 0]) hA rfl (.cons (res_cellS hM Wk_isS_37 rfl 9 rfl (cs := [.slice so128 ((acc.length + 1)) ca129, .slice sI37 il.length cI38, .slice sO39 ol.length cO40]) rfl rfl) (.cons (res_tmp rfl) .nil)) rfl ?_
               rw [show putR nm d fs il ol = (0, putF nm d fs, il, ol) from by unfold putR; rw [if_neg (by rw [hb8]; decide), if_neg (by rw [hb13]; decide), if_neg (by omega), if_neg (fun k9 => by have k8 := k9.2; omega)]]
               have hfin : acc ++ [(nm, .slice so59 d.length ca60, d)] = insL nm (nm, .slice so59 d.length ca60, d) (wthG nm gs) := by rw [← hra rfl, insL_end (by omega)]
               rw [show cellsF acc ++ [.string nm, .slice so59 d.length ca60] = cellsF (insL nm (nm, .slice so59 d.length ca60, d) (wthG nm gs)) from (by rw [← hfin, cellsF_append]; rfl)] at hM
               have hnn : acc.length + 1 = (insL nm (nm, .slice so59 d.length ca60, d) (wthG nm gs)).length := by rw [← hfin, List.length_append]; rfl
               have hrp : readF (insL nm (nm, .slice so59 d.length ca60, d) (wthG nm gs)) = putF nm d fs := by rw [readF_ins, readF_wth, hgr]; exact ins_put fs (rises_all fs _ hsp.2.2.2).2
               exact ret_own hM (noBld_cons (by simp) (noBld_cons (by simp) (noBld_cons (by simp) (noBld_cons (by simp) (noBld_cons (by simp) (noBld_cons (by simp) (noBld_cons (by simp) (noBld_cons (by simp) (noBld_cons (by simp) (noBld_cons (by simp) (noBld_cons (by simp) hnD))))))))))) (mem_at (k := 3) rfl) (mem_at (k := 7) rfl) (mem_at (k := 8) rfl) (gs_ins hGD (fun c hc => (List.mem_cons_of_mem _ (List.mem_cons_of_mem _ (List.mem_cons_of_mem _ (List.mem_cons_of_mem _ (List.mem_cons_of_mem _ (List.mem_cons_of_mem _ (List.mem_cons_of_mem _ (List.mem_cons_of_mem _ (List.mem_cons_of_mem _ (List.mem_cons_of_mem _ (List.mem_cons_of_mem _ hc)))))))))))) (mem_at (k := 2) rfl)) hrp (by rw [hnn, ← hrp, readF_len])
             · obtain ⟨sv134, cv135, rfl⟩ := owns_sliceE (hM.has 2 rfl)
               refine seq_do (v := .bool false) hA rfl rfl rfl (does_un rfl un_not) ?_
               intro a hA
               refine seq_end ?_
               refine hK121 _ _ ?_
               refine wp_cond_false (hA.ev rfl) ?_
               refine wp_skip ?_
               refine hK120 _ _ ?_
               refine wp_seq_k (fun K136 hK136 => ?_)
               refine wp_region_lit ?_
               refine seq_do hA rfl rfl rfl (does_move rfl) ?_
               intro a hA
               refine seq_do (v := .pointer (some ⟨g42, 0, none⟩)) hA rfl rfl rfl (does_field Wk_fld_37_0 rfl rfl) ?_
               intro a hA
               refine s_store (us := [.slice sv134 acc.length cv135, .slice sI37 il.length cI38, .slice sO39 ol.length cO40]) (L' := (.obj g61 (.cells #[.string nm, .slice so59 d.length ca60] 88) :: .row BY 1 (.slice so59 d.length ca60) d.length ((Lib.byteCells d)) :: .row 88 2 (.slice sv134 acc.length cv135) acc.length ((cellsF acc)) :: .row 88 2 (.slice so48 ((wthG nm gs).length) ca49) ((wthG nm gs).length) ((cellsF (wthG nm gs))) :: .obj g42 (.cells #[.slice sv134 acc.length cv135, .slice sI37 il.length cI38, .slice sO39 ol.length cO40] 37) :: .row 88 2 (.slice sF35 fs.length cF36) fs.length ((cellsF gs)) :: .row BY 1 (.slice sI37 il.length cI38) il.length ((Lib.byteCells il)) :: .row BY 1 (.slice sO39 ol.length cO40) ol.length ((Lib.byteCells ol)) :: .obj g4 (.cells #[.slice none 0 0, .slice none 0 0, .slice none 0 0] 37) :: .obj g2 (.cells #[.slice sF fs.length cF_, .slice sI il.length cI, .slice sO ol.length cO] 37) :: D)) hA hM rfl rfl (m_store rfl rfl rfl (by kernel_rfl) hM 4 rfl rfl rfl) 4 rfl rfl rfl ?_
               intro w137 hM
               refine seq_end ?_
               refine hK136 _ _ ?_
               refine wp_seq_k (fun K138 hK138 => ?_)
               refine wp_region_lit ?_
               refine seq_do hA rfl rfl rfl (m_loadS hM Wk_isS_37 rfl 4 rfl (cs := [.slice sv134 acc.length cv135, .slice sI37 il.length cI38, .slice sO39 ol.length cO40]) rfl rfl) ?_
               intro a hA
               refine s_store (us := [.slice sv134 acc.length cv135, .slice sI37 il.length cI38, .slice sO39 ol.length cO40]) (L' := (.obj g61 (.cells #[.string nm, .slice so59 d.length ca60] 88) :: .row BY 1 (.slice so59 d.length ca60) d.length ((Lib.byteCells d)) :: .row 88 2 (.slice sv134 acc.length cv135) acc.length ((cellsF acc)) :: .row 88 2 (.slice so48 ((wthG nm gs).length) ca49) ((wthG nm gs).length) ((cellsF (wthG nm gs))) :: .obj g42 (.cells #[.slice sv134 acc.length cv135, .slice sI37 il.length cI38, .slice sO39 ol.length cO40] 37) :: .row 88 2 (.slice sF35 fs.length cF36) fs.length ((cellsF gs)) :: .row BY 1 (.slice sI37 il.length cI38) il.length ((Lib.byteCells il)) :: .row BY 1 (.slice sO39 ol.length cO40) ol.length ((Lib.byteCells ol)) :: .obj g4 (.cells #[.slice sv134 acc.length cv135, .slice sI37 il.length cI38, .slice sO39 ol.length cO40] 37) :: .obj g2 (.cells #[.slice sF fs.length cF_, .slice sI il.length cI, .slice sO ol.length cO] 37) :: D)) hA hM rfl rfl (m_store rfl rfl rfl (by kernel_rfl) hM 8 rfl rfl rfl) 8 rfl rfl rfl ?_
               intro w139 hM
               refine seq_do hA rfl rfl rfl (does_assign rfl) ?_
               intro a hA
               refine seq_end ?_
               refine hK138 _ _ ?_
               refine wp_ret ?_
               refine hret _ _ ?_
               refine ends (v := .tuple #[.agg #[.slice sv134 acc.length cv135, .slice sI37 il.length cI38, .slice sO39 ol.length cO40], .int .i64 0]) hA rfl (.cons (res_cellS hM Wk_isS_37 rfl 8 rfl (cs := [.slice sv134 acc.length cv135, .slice sI37 il.length cI38, .slice sO39 ol.length cO40]) rfl rfl) (.cons (res_tmp rfl) .nil)) rfl ?_
               rw [show putR nm d fs il ol = (0, putF nm d fs, il, ol) from by unfold putR; rw [if_neg (by rw [hb8]; decide), if_neg (by rw [hb13]; decide), if_neg (by omega), if_neg (fun k9 => by have k8 := k9.2; omega)]]
               have hfin : acc = insL nm (nm, .slice so59 d.length ca60, d) (wthG nm gs) := by rw [← hrb rfl, List.drop_eq_nil_of_le (by omega), List.append_nil]
               have hnn : acc.length = (insL nm (nm, .slice so59 d.length ca60, d) (wthG nm gs)).length := by rw [← hfin]
               rw [show cellsF acc = cellsF (insL nm (nm, .slice so59 d.length ca60, d) (wthG nm gs)) from by rw [← hfin]] at hM
               have hrp : readF (insL nm (nm, .slice so59 d.length ca60, d) (wthG nm gs)) = putF nm d fs := by rw [readF_ins, readF_wth, hgr]; exact ins_put fs (rises_all fs _ hsp.2.2.2).2
               exact ret_own hM (noBld_cons (by simp) (noBld_cons (by simp) (noBld_cons (by simp) (noBld_cons (by simp) (noBld_cons (by simp) (noBld_cons (by simp) (noBld_cons (by simp) (noBld_cons (by simp) (noBld_cons (by simp) (noBld_cons (by simp) hnD)))))))))) (mem_at (k := 2) rfl) (mem_at (k := 6) rfl) (mem_at (k := 7) rfl) (gs_ins hGD (fun c hc => (List.mem_cons_of_mem _ (List.mem_cons_of_mem _ (List.mem_cons_of_mem _ (List.mem_cons_of_mem _ (List.mem_cons_of_mem _ (List.mem_cons_of_mem _ (List.mem_cons_of_mem _ (List.mem_cons_of_mem _ (List.mem_cons_of_mem _ (List.mem_cons_of_mem _ hc))))))))))) (mem_at (k := 1) rfl)) hrp (by rw [hnn, ← hrp, readF_len])
       · obtain ⟨i0, d0, hfx, hi0, hl0⟩ := find_some hb23
         have hi0l := (List.getElem?_eq_some_iff.1 hi0).1
         refine seq_call hA rfl rfl rfl (enters_func rfl rfl (fun w => by kernel_rfl)) ((show Calls Try.prog 58 #[.agg #[.slice sF fs.length cF_, .slice sI il.length cI, .slice sO ol.length cO], .string nm] _ (fun e w' => e = .returned (.int .i64 (((i0 : Nat) : Int))) ∧ _) from (hfx ▸ rfind_any (nm := nm) (cF_ := cF_) (cI := cI) (cO := cO) (sI := sI) (sO := sO) (il := il) (ol := ol) (hF.below hM.bel) hn))) ?_
         rintro _ w141 ⟨rfl, hb140⟩
         replace hM := hM.call hb140
         refine ⟨_, rfl, ?_⟩
         intro a hA
         refine seq_do (v := .bool false) hA rfl rfl rfl (does_bin rfl rfl (fun w => (bin_lss w).trans (by rw [show (decide (((i0 : Nat) : Int) < 0)) = false from decide_eq_false (by omega)]))) ?_
         intro a hA
         refine seq_do hA rfl rfl rfl (does_move rfl) ?_
         intro a hA
         refine seq_skip hA rfl rfl rfl ?_
         intro a hA
         refine seq_skip hA rfl rfl rfl ?_
         intro a hA
         refine seq_skip hA rfl rfl rfl ?_
         intro a hA
         refine seq_skip hA rfl rfl rfl ?_
         intro a hA
         refine seq_do (v := .bool false) hA rfl rfl rfl (does_pick rfl rfl rfl rfl) ?_
         intro a hA
         refine seq_end ?_
         refine hK22 _ _ ?_
         refine wp_cond_false (hA.ev rfl) ?_
         refine wp_skip ?_
         refine hK21 _ _ ?_
         refine wp_seq_k (fun K142 hK142 => ?_)
         refine wp_region_lit ?_
         refine seq_do hA rfl rfl rfl (m_loadS hM Wk_isS_37 rfl 1 rfl (cs := [.slice sF fs.length cF_, .slice sI il.length cI, .slice sO ol.length cO]) rfl rfl) ?_
         intro a hA
         refine seq_call hA rfl rfl rfl (enters_func rfl rfl (fun w => by kernel_rfl)) (rcopy_any (cF_ := cF_) (cI := cI) (cO := cO) (hF.below hM.bel) (hI.below hM.bel) (hO.below hM.bel) (Bd.sound hb8)) ?_
         rintro _ w154 ⟨vF143, vI144, vO145, rfl, hOw146⟩
         obtain ⟨gs, D, hM147, hGD, hgr, hnD⟩ := hOw146
         obtain ⟨sF148, cF149, rfl⟩ := owns_sliceE (hM147.has 0 rfl)
         obtain ⟨sI150, cI151, rfl⟩ := owns_sliceE (hM147.has 1 rfl)
         obtain ⟨sO152, cO153, rfl⟩ := owns_sliceE (hM147.has 2 rfl)
         have hgl : gs.length = fs.length := by rw [← hgr, readF_len]
         replace hM : Mg w w154 (.row 88 2 (.slice sF148 fs.length cF149) fs.length ((cellsF gs)) :: .row BY 1 (.slice sI150 il.length cI151) il.length ((Lib.byteCells il)) :: .row BY 1 (.slice sO152 ol.length cO153) ol.length ((Lib.byteCells ol)) :: .obj g4 (.cells #[.slice none 0 0, .slice none 0 0, .slice none 0 0] 37) :: .obj g2 (.cells #[.slice sF fs.length cF_, .slice sI il.length cI, .slice sO ol.length cO] 37) :: D) := ((hM.both hM147 (noBld_cons (by simp) (noBld_cons (by simp) (noBld_quiet quietL_nil))) (noBld_cons (by simp) (noBld_cons (by simp) (noBld_cons (by simp) hnD)))).perm (perm_own _ _ _ _ _))
         refine ⟨_, rfl, ?_⟩
         intro a hA
         refine s_new (vs := [.slice none 0 0, .slice none 0 0, .slice none 0 0]) (t := 37) hA hM rfl rfl rfl (fun g => .pointer (some ⟨g, 0, none⟩)) (does_alloc (z := .agg #[.slice none 0 0, .slice none 0 0, .slice none 0 0]) (by kernel_rfl) rfl) (by decide) ?_
         intro g155 w156 hM a hA
         refine s_store (us := [.slice sF148 fs.length cF149, .slice sI150 il.length cI151, .slice sO152 ol.length cO153]) (L' := (.obj g155 (.cells #[.slice sF148 fs.length cF149, .slice sI150 il.length cI151, .slice sO152 ol.length cO153] 37) :: .row 88 2 (.slice sF148 fs.length cF149) fs.length ((cellsF gs)) :: .row BY 1 (.slice sI150 il.length cI151) il.length ((Lib.byteCells il)) :: .row BY 1 (.slice sO152 ol.length cO153) ol.length ((Lib.byteCells ol)) :: .obj g4 (.cells #[.slice none 0 0, .slice none 0 0, .slice none 0 0] 37) :: .obj g2 (.cells #[.slice sF fs.length cF_, .slice sI il.length cI, .slice sO ol.length cO] 37) :: D)) hA hM rfl rfl (m_store rfl rfl rfl (by kernel_rfl) hM 0 rfl rfl rfl) 0 rfl rfl rfl ?_
         intro w157 hM
         refine seq_end ?_
         refine hK142 _ _ ?_
         refine wp_seq_k (fun K158 hK158 => ?_)
         refine wp_region_lit ?_
         refine seq_do (v := .pointer (some ⟨g155, 0, none⟩)) hA rfl rfl rfl (does_field Wk_fld_37_0 rfl rfl) ?_
         intro a hA
         refine seq_do hA rfl rfl rfl (m_load1 hM Wk_is1_35 rfl 0 rfl rfl) ?_
         intro a hA
         refine seq_do hA rfl rfl rfl (does_move rfl) ?_
         intro a hA
         refine seq_call hA rfl rfl rfl (enters_func rfl rfl (fun w => by kernel_rfl)) ((show Calls Try.prog 59 #[.slice sF148 fs.length cF149, .string nm] _ _ from hgl ▸ rwithout_any (nm := nm) (rc_own hM 1 rfl) (gs_one hM (fun c hc => (List.mem_cons_of_mem _ (List.mem_cons_of_mem _ (List.mem_cons_of_mem _ (List.mem_cons_of_mem _ (List.mem_cons_of_mem _ (List.mem_cons_of_mem _ hc))))))) hGD) (by omega))) ?_
         rintro _ w163 ⟨v159, rfl, hM160⟩
         obtain ⟨so161, ca162, rfl⟩ := owns_sliceE (hM160.has 0 rfl)
         replace hM : Mg w w163 (.row 88 2 (.slice so161 ((wthG nm gs).length) ca162) ((wthG nm gs).length) ((cellsF (wthG nm gs))) :: .obj g155 (.cells #[.slice sF148 fs.length cF149, .slice sI150 il.length cI151, .slice sO152 ol.length cO153] 37) :: .row 88 2 (.slice sF148 fs.length cF149) fs.length ((cellsF gs)) :: .row BY 1 (.slice sI150 il.length cI151) il.length ((Lib.byteCells il)) :: .row BY 1 (.slice sO152 ol.length cO153) ol.length ((Lib.byteCells ol)) :: .obj g4 (.cells #[.slice none 0 0, .slice none 0 0, .slice none 0 0] 37) :: .obj g2 (.cells #[.slice sF fs.length cF_, .slice sI il.length cI, .slice sO ol.length cO] 37) :: D) := (hM.both hM160 (noBld_cons (by simp) (noBld_cons (by simp) (noBld_cons (by simp) (noBld_cons (by simp) (noBld_cons (by simp) (noBld_cons (by simp) hnD)))))) (noBld_cons (by simp) (noBld_quiet quietL_nil)))
         refine ⟨_, rfl, ?_⟩
         intro a hA
         refine seq_do hA rfl rfl rfl (does_assign rfl) ?_
         intro a hA
         refine seq_end ?_
         refine hK158 _ _ ?_
         refine wp_seq_k (fun K164 hK164 => ?_)
         refine wp_region_lit ?_
         refine s_litE (e := 88) (sz := 2) (m := 0) (vs := []) hA hM rfl rfl rfl (does_buildSlice rfl (by kernel_rfl)) rfl rfl (.inl (by decide)) ?_
         intro g165 w166 hM a hA
         refine seq_do hA rfl rfl rfl (does_assign rfl) ?_
         intro a hA
         refine seq_end ?_
         refine hK164 _ _ ?_
         refine wp_seq_k (fun K167 hK167 => ?_)
         refine wp_region_lit ?_
         refine seq_do hA rfl rfl rfl (does_move rfl) ?_
         intro a hA
         refine s_lit (vs := []) hA hM rfl rfl rfl (does_buildSlice rfl (by kernel_rfl)) rfl rfl (noBld_cons (by simp) (noBld_cons (by simp) (noBld_cons (by simp) (noBld_cons (by simp) (noBld_cons (by simp) (noBld_cons (by simp) (noBld_cons (by simp) (noBld_cons (by simp) hnD)))))))) ?_
         intro g168 w169 hM a hA
         refine seq_do hA rfl rfl rfl (does_move rfl) ?_
         intro a hA
         refine s_append (k := 0) (q := 0) (m := d.length) (xs := []) (news := Lib.byteCells d) (L' := fun v170 => (.row BY 1 (v170) ((0 + d.length)) (([] ++ Lib.byteCells d)) :: .row 88 2 (.slice (some ⟨g165, 0, none⟩) 0 0) 0 ([]) :: .row 88 2 (.slice so161 ((wthG nm gs).length) ca162) ((wthG nm gs).length) ((cellsF (wthG nm gs))) :: .obj g155 (.cells #[.slice sF148 fs.length cF149, .slice sI150 il.length cI151, .slice sO152 ol.length cO153] 37) :: .row 88 2 (.slice sF148 fs.length cF149) fs.length ((cellsF gs)) :: .row BY 1 (.slice sI150 il.length cI151) il.length ((Lib.byteCells il)) :: .row BY 1 (.slice sO152 ol.length cO153) ol.length ((Lib.byteCells ol)) :: .obj g4 (.cells #[.slice none 0 0, .slice none 0 0, .slice none 0 0] 37) :: .obj g2 (.cells #[.slice sF fs.length cF_, .slice sI il.length cI, .slice sO ol.length cO] 37) :: D)) hA rfl rfl rfl (m_appendA Try.underlying24 (by kernel_rfl) hM 0 rfl rfl (show Rb _ _ d from hb.below hM.bel) rfl (by first | omega | (simp only [List.length_nil]; omega) | (simp only [List.length_take, List.length_drop, List.length_nil]; omega))) (fun _ => rfl) ?_
         intro v170 w171 hM a hA
         replace hM : Mg w w171 (.row BY 1 (v170) d.length ((Lib.byteCells d)) :: .row 88 2 (.slice (some ⟨g165, 0, none⟩) 0 0) 0 ([]) :: .row 88 2 (.slice so161 ((wthG nm gs).length) ca162) ((wthG nm gs).length) ((cellsF (wthG nm gs))) :: .obj g155 (.cells #[.slice sF148 fs.length cF149, .slice sI150 il.length cI151, .slice sO152 ol.length cO153] 37) :: .row 88 2 (.slice sF148 fs.length cF149) fs.length ((cellsF gs)) :: .row BY 1 (.slice sI150 il.length cI151) il.length ((Lib.byteCells il)) :: .row BY 1 (.slice sO152 ol.length cO153) ol.length ((Lib.byteCells ol)) :: .obj g4 (.cells #[.slice none 0 0, .slice none 0 0, .slice none 0 0] 37) :: .obj g2 (.cells #[.slice sF fs.length cF_, .slice sI il.length cI, .slice sO ol.length cO] 37) :: D) := by
           have h9 := hM
           rw [Nat.zero_add, List.nil_append] at h9
           exact h9
         obtain ⟨so172, ca173, rfl⟩ := owns_sliceE (hM.has 0 rfl)
         refine seq_do (v := .agg #[.string nm, .slice so172 d.length ca173]) hA rfl rfl rfl (does_build rfl (fun w => by kernel_rfl)) ?_
         intro a hA
         refine s_new (vs := [.string (⟨#[]⟩), .slice none 0 0]) (t := 88) hA hM rfl rfl rfl (fun g => .pointer (some ⟨g, 0, none⟩)) (does_alloc (z := .agg #[.string (⟨#[]⟩), .slice none 0 0]) (by kernel_rfl) rfl) (by decide) ?_
         intro g174 w175 hM a hA
         refine s_store (us := [.string nm, .slice so172 d.length ca173]) (L' := (.obj g174 (.cells #[.string nm, .slice so172 d.length ca173] 88) :: .row BY 1 (.slice so172 d.length ca173) d.length ((Lib.byteCells d)) :: .row 88 2 (.slice (some ⟨g165, 0, none⟩) 0 0) 0 ([]) :: .row 88 2 (.slice so161 ((wthG nm gs).length) ca162) ((wthG nm gs).length) ((cellsF (wthG nm gs))) :: .obj g155 (.cells #[.slice sF148 fs.length cF149, .slice sI150 il.length cI151, .slice sO152 ol.length cO153] 37) :: .row 88 2 (.slice sF148 fs.length cF149) fs.length ((cellsF gs)) :: .row BY 1 (.slice sI150 il.length cI151) il.length ((Lib.byteCells il)) :: .row BY 1 (.slice sO152 ol.length cO153) ol.length ((Lib.byteCells ol)) :: .obj g4 (.cells #[.slice none 0 0, .slice none 0 0, .slice none 0 0] 37) :: .obj g2 (.cells #[.slice sF fs.length cF_, .slice sI il.length cI, .slice sO ol.length cO] 37) :: D)) hA hM rfl rfl (m_store rfl rfl rfl (by kernel_rfl) hM 0 rfl rfl rfl) 0 rfl rfl rfl ?_
         intro w176 hM
         refine seq_end ?_
         refine hK167 _ _ ?_
         refine wp_seq_k (fun K177 hK177 => ?_)
         refine wp_region_lit ?_
         refine seq_do hA rfl rfl rfl (does_assign rfl) ?_
         intro a hA
         refine seq_end ?_
         refine hK177 _ _ ?_
         refine wp_seq_k (fun K178 hK178 => ?_)
         refine wp_seq_k (fun K179 hK179 => ?_)
         refine wp_region_lit ?_
         refine seq_do hA rfl rfl rfl (does_assign rfl) ?_
         intro a hA
         refine seq_end ?_
         refine hK179 _ _ ?_
         refine wp_block ?_
         refine wp_loop_n (fun m_ a w1 => ∃ (i : Nat) (acc : List Gf) (va : Value) (pb : Bool), m_ = (wthG nm gs).length - i ∧ ((pb = false → acc ++ insL nm (nm, .slice so172 d.length ca173, d) ((wthG nm gs).drop i) = insL nm (nm, .slice so172 d.length ca173, d) (wthG nm gs)) ∧ (pb = true → acc ++ (wthG nm gs).drop i = insL nm (nm, .slice so172 d.length ca173, d) (wthG nm gs)) ∧ i ≤ (wthG nm gs).length ∧ acc.length ≤ 2 * i + 1) ∧ Sl a 86 [(0, .agg #[.slice sF fs.length cF_, .slice sI il.length cI, .slice sO ol.length cO]), (1, .string nm), (2, .slice so d.length cd), (3, .pointer (some ⟨g2, 0, none⟩)), (6, .pointer (some ⟨g4, 0, none⟩)), (7, .int .i64 0), (8, .pointer (some ⟨g155, 0, none⟩)), (9, .slice so161 ((wthG nm gs).length) ca162), (10, va), (11, .pointer (some ⟨g174, 0, none⟩)), (12, .bool pb), (13, .int .i64 (((i : Nat) : Int))), (14, .agg #[.slice sF fs.length cF_, .slice sI il.length cI, .slice sO ol.length cO]), (15, .bool true), (16, .bool false), (18, .string nm), (19, .bool true), (20, .bool false), (22, .slice so d.length cd), (23, .int .i64 (((d.length : Nat) : Int))), (24, .bool false), (26, .agg #[.slice sF fs.length cF_, .slice sI il.length cI, .slice sO ol.length cO]), (27, .string nm), (28, .int .i64 (((i0 : Nat) : Int))), (29, .bool false), (30, .bool false), (35, .bool false), (37, .agg #[.slice sF fs.length cF_, .slice sI il.length cI, .slice sO ol.length cO]), (38, .agg #[.slice sF148 fs.length cF149, .slice sI150 il.length cI151, .slice sO152 ol.length cO153]), (39, .pointer (some ⟨g155, 0, none⟩)), (40, .slice sF148 fs.length cF149), (41, .string nm), (42, .slice so161 ((wthG nm gs).length) ca162), (43, .slice (some ⟨g165, 0, none⟩) 0 0), (44, .string nm), (45, .slice (some ⟨g168, 0, none⟩) 0 0), (46, .slice so d.length cd), (47, .slice so172 d.length ca173), (48, .agg #[.string nm, .slice so172 d.length ca173])] ∧ Mg w w1 (.obj g174 (.cells #[.string nm, .slice so172 d.length ca173] 88) :: .row BY 1 (.slice so172 d.length ca173) d.length ((Lib.byteCells d)) :: .row 88 2 (va) acc.length ((cellsF acc)) :: .row 88 2 (.slice so161 ((wthG nm gs).length) ca162) ((wthG nm gs).length) ((cellsF (wthG nm gs))) :: .obj g155 (.cells #[.slice sF148 fs.length cF149, .slice sI150 il.length cI151, .slice sO152 ol.length cO153] 37) :: .row 88 2 (.slice sF148 fs.length cF149) fs.length ((cellsF gs)) :: .row BY 1 (.slice sI150 il.length cI151) il.length ((Lib.byteCells il)) :: .row BY 1 (.slice sO152 ol.length cO153) ol.length ((Lib.byteCells ol)) :: .obj g4 (.cells #[.slice none 0 0, .slice none 0 0, .slice none 0 0] 37) :: .obj g2 (.cells #[.slice sF fs.length cF_, .slice sI il.length cI, .slice sO ol.length cO] 37) :: D)) _ ⟨0, [], .slice (some ⟨g165, 0, none⟩) 0 0, false, rfl, ⟨fun _ => rfl, (fun h => (by cases h)), Nat.zero_le _, Nat.zero_le _⟩, hA.keep _ ⟨rfl, rfl, rfl, rfl, rfl, rfl, rfl, rfl, rfl, rfl, rfl, rfl, rfl, rfl, rfl, rfl, rfl, rfl, rfl, rfl, rfl, rfl, rfl, rfl, rfl, rfl, rfl, rfl, rfl, rfl, rfl, rfl, rfl, rfl, rfl, rfl, rfl, rfl, rfl, trivial⟩, hM⟩ ?_
         clear hM hA
         rintro m_ a w180 ⟨i, acc, va, pb, rfl, hinv182, hA, hM⟩ K181 hK181
         obtain ⟨hra, hrb, hi9, hacc⟩ := hinv182
         have hwl := wthG_len nm gs
         refine wp_seq_k (fun K183 hK183 => ?_)
         refine wp_seq_k (fun K184 hK184 => ?_)
         refine wp_region_lit ?_
         refine seq_do hA rfl rfl rfl (does_move rfl) ?_
         intro a hA
         refine seq_do hA rfl rfl rfl (does_move rfl) ?_
         intro a hA
         refine seq_do (v := .int .i64 ((((wthG nm gs).length : Nat) : Int))) hA rfl rfl rfl (does_len Try.underlying35 rfl) ?_
         intro a hA
         rcases Bool.eq_false_or_eq_true (decide (((i : Nat) : Int) < (((wthG nm gs).length : Nat) : Int))) with hb185 | hb185
         · have hb185' := of_decide_eq_true hb185
           refine seq_do (v := .bool true) hA rfl rfl rfl (does_bin rfl rfl (fun w => (bin_lss w).trans (by rw [hb185]))) ?_
           intro a hA
           refine seq_end ?_
           refine hK184 _ _ ?_
           refine wp_cond_true (hA.ev rfl) ?_
           refine wp_skip ?_
           refine hK183 _ _ ?_
           refine wp_seq_k (fun K186 hK186 => ?_)
           refine wp_block ?_
           refine wp_seq_k (fun K187 hK187 => ?_)
           refine wp_seq_k (fun K188 hK188 => ?_)
           refine wp_region_lit ?_
           refine seq_do hA rfl rfl rfl (does_move rfl) ?_
           intro a hA
           rcases pb with _ | _
           · obtain ⟨sv189, cv190, rfl⟩ := owns_sliceE (hM.has 2 rfl)
             refine seq_do (v := .bool true) hA rfl rfl rfl (does_un rfl un_not) ?_
             intro a hA
             refine seq_do hA rfl rfl rfl (does_move rfl) ?_
             intro a hA
             refine seq_do hA rfl rfl rfl (does_move rfl) ?_
             intro a hA
             refine seq_do hA rfl rfl rfl (does_move rfl) ?_
             intro a hA
             obtain ⟨gn191, gv192, gd193, hg194⟩ := gf_get (gs := wthG nm gs) (i := i) (by omega)
             obtain ⟨go195, hgo196⟩ := row_addr hM 3 rfl (by omega)
             have h1g197 := gs_one hM (fun c hc => (List.mem_cons_of_mem _ (List.mem_cons_of_mem _ (List.mem_cons_of_mem _ (List.mem_cons_of_mem _ (List.mem_cons_of_mem _ (List.mem_cons_of_mem _ (List.mem_cons_of_mem _ (List.mem_cons_of_mem _ (List.mem_cons_of_mem _ (List.mem_cons_of_mem _ hc))))))))))) hGD _ (List.mem_filter.1 (List.mem_of_getElem? hg194)).1
             refine seq_do (v := .pointer (some ⟨go195, i * 2, none⟩)) hA rfl rfl rfl (does_indexX Try.underlying35 (by kernel_rfl) rfl rfl rfl hgo196 (show i < (wthG nm gs).length by omega)) ?_
             intro a hA
             refine seq_do (v := .pointer (some ⟨go195, i * 2, none⟩)) hA rfl rfl rfl (does_field Wk_fld_88_0 rfl rfl) ?_
             intro a hA
             refine seq_do (v := .string gn191) hA rfl rfl rfl (m_loadX hM 3 rfl hgo196 (cellsF_at _ _ _ hg194).1 Wk_is1_9 rfl) ?_
             intro a hA
             refine seq_do hA rfl rfl rfl (does_move rfl) ?_
             intro a hA
             rcases Bool.eq_false_or_eq_true (ltN nm gn191) with hb198 | hb198
             · refine seq_do (v := .bool true) hA rfl rfl rfl (does_bin rfl rfl (fun w => (bin_gtrS w).trans (by rw [leq_not, hb198]; rfl))) ?_
               intro a hA
               refine seq_do (v := .bool true) hA rfl rfl rfl (does_pick rfl rfl rfl rfl) ?_
               intro a hA
               refine seq_end ?_
               refine hK188 _ _ ?_
               refine wp_cond_true (hA.ev rfl) ?_
               refine wp_seq_k (fun K199 hK199 => ?_)
               refine wp_region_lit ?_
               refine seq_do hA rfl rfl rfl (does_move rfl) ?_
               intro a hA
               refine seq_do hA rfl rfl rfl (m_loadS hM Wk_isS_88 rfl 0 rfl (cs := [.string nm, .slice so172 d.length ca173]) rfl rfl) ?_
               intro a hA
               refine s_litE (e := 88) (sz := 2) (m := 1) (vs := [.string nm, .slice so172 d.length ca173]) hA hM rfl rfl rfl (does_buildSlice rfl (by kernel_rfl)) rfl rfl (.inl (by decide)) ?_
               intro g200 w201 hM a hA
               refine s_appendE (e := 88) (sz := 2) (k := 3) (q := acc.length) (m := 1) (xs := (cellsF acc)) (news := [.string nm, .slice so172 d.length ca173]) (L' := fun v202 => (.row 88 2 (.slice (some ⟨g200, 0, none⟩) 1 1) 1 ([.string nm, .slice so172 d.length ca173]) :: .obj g174 (.cells #[.string nm, .slice so172 d.length ca173] 88) :: .row BY 1 (.slice so172 d.length ca173) d.length ((Lib.byteCells d)) :: .row 88 2 (v202) ((acc.length + 1)) (((cellsF acc) ++ [.string nm, .slice so172 d.length ca173])) :: .row 88 2 (.slice so161 ((wthG nm gs).length) ca162) ((wthG nm gs).length) ((cellsF (wthG nm gs))) :: .obj g155 (.cells #[.slice sF148 fs.length cF149, .slice sI150 il.length cI151, .slice sO152 ol.length cO153] 37) :: .row 88 2 (.slice sF148 fs.length cF149) fs.length ((cellsF gs)) :: .row BY 1 (.slice sI150 il.length cI151) il.length ((Lib.byteCells il)) :: .row BY 1 (.slice sO152 ol.length cO153) ol.length ((Lib.byteCells ol)) :: .obj g4 (.cells #[.slice none 0 0, .slice none 0 0, .slice none 0 0] 37) :: .obj g2 (.cells #[.slice sF fs.length cF_, .slice sI il.length cI, .slice sO ol.length cO] 37) :: D)) hA rfl rfl rfl (m_appendB (z := .agg #[.string ⟨#[]⟩, .slice none 0 0]) (by_ := 40) Try.underlying35 (by kernel_rfl) rfl rfl hM 3 rfl rfl 0 rfl rfl (fun u hu => List.all_eq_true.1 (rfl : ([.string nm, .slice so172 d.length ca173] : List Value).all Value.oneCell' = true) u hu) (by decide) (by omega) (by omega)) (fun _ => rfl) ?_
               intro v202 w203 hM a hA
               obtain ⟨so204, ca205, rfl⟩ := owns_sliceE (hM.has 3 rfl)
               refine seq_do hA rfl rfl rfl (does_assign rfl) ?_
               intro a hA
               refine seq_end ?_
               refine hK199 _ _ ?_
               refine wp_region_lit ?_
               refine seq_do hA rfl rfl rfl (does_assign rfl) ?_
               intro a hA
               refine seq_end ?_
               refine hK187 _ _ ?_
               refine wp_region_lit ?_
               refine seq_do hA rfl rfl rfl (does_move rfl) ?_
               intro a hA
               refine seq_do hA rfl rfl rfl (does_move rfl) ?_
               intro a hA
               refine seq_do hA rfl rfl rfl (does_move rfl) ?_
               intro a hA
               refine seq_do (v := .pointer (some ⟨go195, i * 2, none⟩)) hA rfl rfl rfl (does_indexX Try.underlying35 (by kernel_rfl) rfl rfl rfl hgo196 (show i < (wthG nm gs).length by omega)) ?_
               intro a hA
               refine seq_do (v := .agg #[.string gn191, gv192]) hA rfl rfl rfl (m_loadX2 hM 4 rfl hgo196 hg194 Wk_isS_88 rfl) ?_
               intro a hA
               refine s_litE (e := 88) (sz := 2) (m := 1) (vs := [.string gn191, gv192]) hA hM rfl rfl rfl (does_buildSlice rfl (by kernel_rfl)) rfl rfl (.inl (by decide)) ?_
               intro g206 w207 hM a hA
               refine s_appendE (e := 88) (sz := 2) (k := 4) (q := (acc.length + 1)) (m := 1) (xs := ((cellsF acc) ++ [.string nm, .slice so172 d.length ca173])) (news := [.string gn191, gv192]) (L' := fun v208 => (.row 88 2 (.slice (some ⟨g206, 0, none⟩) 1 1) 1 ([.string gn191, gv192]) :: .row 88 2 (.slice (some ⟨g200, 0, none⟩) 1 1) 1 ([.string nm, .slice so172 d.length ca173]) :: .obj g174 (.cells #[.string nm, .slice so172 d.length ca173] 88) :: .row BY 1 (.slice so172 d.length ca173) d.length ((Lib.byteCells d)) :: .row 88 2 (v208) (((acc.length + 1) + 1)) ((((cellsF acc) ++ [.string nm, .slice so172 d.length ca173]) ++ [.string gn191, gv192])) :: .row 88 2 (.slice so161 ((wthG nm gs).length) ca162) ((wthG nm gs).length) ((cellsF (wthG nm gs))) :: .obj g155 (.cells #[.slice sF148 fs.length cF149, .slice sI150 il.length cI151, .slice sO152 ol.length cO153] 37) :: .row 88 2 (.slice sF148 fs.length cF149) fs.length ((cellsF gs)) :: .row BY 1 (.slice sI150 il.length cI151) il.length ((Lib.byteCells il)) :: .row BY 1 (.slice sO152 ol.length cO153) ol.length ((Lib.byteCells ol)) :: .obj g4 (.cells #[.slice none 0 0, .slice none 0 0, .slice none 0 0] 37) :: .obj g2 (.cells #[.slice sF fs.length cF_, .slice sI il.length cI, .slice sO ol.length cO] 37) :: D)) hA rfl rfl rfl (m_appendB (z := .agg #[.string ⟨#[]⟩, .slice none 0 0]) (by_ := 40) Try.underlying35 (by kernel_rfl) rfl rfl hM 4 rfl rfl 0 rfl rfl (one2 h1g197) (by decide) (by omega) (by omega)) (fun _ => rfl) ?_
               intro v208 w209 hM a hA
               obtain ⟨so210, ca211, rfl⟩ := owns_sliceE (hM.has 4 rfl)
               refine seq_do hA rfl rfl rfl (does_assign rfl) ?_
               intro a hA
               refine seq_end ?_
               refine hK186 _ _ ?_
               refine wp_region_lit ?_
               refine seq_do hA rfl rfl rfl (does_move rfl) ?_
               intro a hA
               refine seq_do (v := .int .i64 (((i + 1 : Nat) : Int))) hA rfl rfl rfl (does_bin rfl rfl (ar_add ((in_i64 (by omega) (by omega)).trans (by omega)))) ?_
               intro a hA
               refine seq_do hA rfl rfl rfl (does_assign rfl) ?_
               intro a hA
               refine seq_end ?_
               replace hM : Mg w w209 (.obj g174 (.cells #[.string nm, .slice so172 d.length ca173] 88) :: .row BY 1 (.slice so172 d.length ca173) d.length ((Lib.byteCells d)) :: .row 88 2 (.slice so210 (((acc.length + 1) + 1)) ca211) ((acc ++ [(nm, .slice so172 d.length ca173, d), (gn191, gv192, gd193)]).length) ((cellsF (acc ++ [(nm, .slice so172 d.length ca173, d), (gn191, gv192, gd193)]))) :: .row 88 2 (.slice so161 ((wthG nm gs).length) ca162) ((wthG nm gs).length) ((cellsF (wthG nm gs))) :: .obj g155 (.cells #[.slice sF148 fs.length cF149, .slice sI150 il.length cI151, .slice sO152 ol.length cO153] 37) :: .row 88 2 (.slice sF148 fs.length cF149) fs.length ((cellsF gs)) :: .row BY 1 (.slice sI150 il.length cI151) il.length ((Lib.byteCells il)) :: .row BY 1 (.slice sO152 ol.length cO153) ol.length ((Lib.byteCells ol)) :: .obj g4 (.cells #[.slice none 0 0, .slice none 0 0, .slice none 0 0] 37) :: .obj g2 (.cells #[.slice sF fs.length cF_, .slice sI il.length cI, .slice sO ol.length cO] 37) :: D) := by
                 have h9 := hM.sub (.cons _ (.cons _ (.cons_cons _ (.cons_cons _ (.cons_cons _ (.cons_cons _ (.cons_cons _ (.cons_cons _ (.cons_cons _ (.cons_cons _ (.cons_cons _ (.cons_cons _ (.refl _)))))))))))))
                 rw [cellsF_append, List.length_append]
                 simpa [cellsF, List.append_assoc, Nat.add_assoc] using h9
               refine hK181 _ _ _ (by omega) ⟨i + 1, acc ++ [(nm, .slice so172 d.length ca173, d), (gn191, gv192, gd193)], .slice so210 (((acc.length + 1) + 1)) ca211, true, rfl, ⟨(fun h => (by cases h)), (fun _ => (by rw [← hra rfl, insL_yes hg194 hb198, drop_gf hg194, List.append_assoc]; rfl)), by omega, by rw [List.length_append]; simp only [List.length_cons, List.length_nil]; omega⟩, hA.keep _ ⟨rfl, rfl, rfl, rfl, rfl, rfl, rfl, rfl, rfl, rfl, rfl, rfl, rfl, rfl, rfl, rfl, rfl, rfl, rfl, rfl, rfl, rfl, rfl, rfl, rfl, rfl, rfl, rfl, rfl, rfl, rfl, rfl, rfl, rfl, rfl, rfl, rfl, rfl, rfl, trivial⟩, hM⟩
             · refine seq_do (v := .bool false) hA rfl rfl rfl (does_bin rfl rfl (fun w => (bin_gtrS w).trans (by rw [leq_not, hb198]; rfl))) ?_
               intro a hA
               refine seq_do (v := .bool false) hA rfl rfl rfl (does_pick rfl rfl rfl rfl) ?_
               intro a hA
               refine seq_end ?_
               refine hK188 _ _ ?_
               refine wp_cond_false (hA.ev rfl) ?_
               refine wp_skip ?_
               refine hK187 _ _ ?_
               refine wp_region_lit ?_
               refine seq_do hA rfl rfl rfl (does_move rfl) ?_
               intro a hA
               refine seq_do hA rfl rfl rfl (does_move rfl) ?_
               intro a hA
               refine seq_do hA rfl rfl rfl (does_move rfl) ?_
               intro a hA
               refine seq_do (v := .pointer (some ⟨go195, i * 2, none⟩)) hA rfl rfl rfl (does_indexX Try.underlying35 (by kernel_rfl) rfl rfl rfl hgo196 (show i < (wthG nm gs).length by omega)) ?_
               intro a hA
               refine seq_do (v := .agg #[.string gn191, gv192]) hA rfl rfl rfl (m_loadX2 hM 3 rfl hgo196 hg194 Wk_isS_88 rfl) ?_
               intro a hA
               refine s_litE (e := 88) (sz := 2) (m := 1) (vs := [.string gn191, gv192]) hA hM rfl rfl rfl (does_buildSlice rfl (by kernel_rfl)) rfl rfl (.inl (by decide)) ?_
               intro g212 w213 hM a hA
               refine s_appendE (e := 88) (sz := 2) (k := 3) (q := acc.length) (m := 1) (xs := (cellsF acc)) (news := [.string gn191, gv192]) (L' := fun v214 => (.row 88 2 (.slice (some ⟨g212, 0, none⟩) 1 1) 1 ([.string gn191, gv192]) :: .obj g174 (.cells #[.string nm, .slice so172 d.length ca173] 88) :: .row BY 1 (.slice so172 d.length ca173) d.length ((Lib.byteCells d)) :: .row 88 2 (v214) ((acc.length + 1)) (((cellsF acc) ++ [.string gn191, gv192])) :: .row 88 2 (.slice so161 ((wthG nm gs).length) ca162) ((wthG nm gs).length) ((cellsF (wthG nm gs))) :: .obj g155 (.cells #[.slice sF148 fs.length cF149, .slice sI150 il.length cI151, .slice sO152 ol.length cO153] 37) :: .row 88 2 (.slice sF148 fs.length cF149) fs.length ((cellsF gs)) :: .row BY 1 (.slice sI150 il.length cI151) il.length ((Lib.byteCells il)) :: .row BY 1 (.slice sO152 ol.length cO153) ol.length ((Lib.byteCells ol)) :: .obj g4 (.cells #[.slice none 0 0, .slice none 0 0, .slice none 0 0] 37) :: .obj g2 (.cells #[.slice sF fs.length cF_, .slice sI il.length cI, .slice sO ol.length cO] 37) :: D)) hA rfl rfl rfl (m_appendB (z := .agg #[.string ⟨#[]⟩, .slice none 0 0]) (by_ := 40) Try.underlying35 (by kernel_rfl) rfl rfl hM 3 rfl rfl 0 rfl rfl (one2 h1g197) (by decide) (by omega) (by omega)) (fun _ => rfl) ?_
               intro v214 w215 hM a hA
               obtain ⟨so216, ca217, rfl⟩ := owns_sliceE (hM.has 3 rfl)
               refine seq_do hA rfl rfl rfl (does_assign rfl) ?_
               intro a hA
               refine seq_end ?_
               refine hK186 _ _ ?_
               refine wp_region_lit ?_
               refine seq_do hA rfl rfl rfl (does_move rfl) ?_
               intro a hA
               refine seq_do (v := .int .i64 (((i + 1 : Nat) : Int))) hA rfl rfl rfl (does_bin rfl rfl (ar_add ((in_i64 (by omega) (by omega)).trans (by omega)))) ?_
               intro a hA
               refine seq_do hA rfl rfl rfl (does_assign rfl) ?_
               intro a hA
               refine seq_end ?_
               replace hM : Mg w w215 (.obj g174 (.cells #[.string nm, .slice so172 d.length ca173] 88) :: .row BY 1 (.slice so172 d.length ca173) d.length ((Lib.byteCells d)) :: .row 88 2 (.slice so216 ((acc.length + 1)) ca217) ((acc ++ [(gn191, gv192, gd193)]).length) ((cellsF (acc ++ [(gn191, gv192, gd193)]))) :: .row 88 2 (.slice so161 ((wthG nm gs).length) ca162) ((wthG nm gs).length) ((cellsF (wthG nm gs))) :: .obj g155 (.cells #[.slice sF148 fs.length cF149, .slice sI150 il.length cI151, .slice sO152 ol.length cO153] 37) :: .row 88 2 (.slice sF148 fs.length cF149) fs.length ((cellsF gs)) :: .row BY 1 (.slice sI150 il.length cI151) il.length ((Lib.byteCells il)) :: .row BY 1 (.slice sO152 ol.length cO153) ol.length ((Lib.byteCells ol)) :: .obj g4 (.cells #[.slice none 0 0, .slice none 0 0, .slice none 0 0] 37) :: .obj g2 (.cells #[.slice sF fs.length cF_, .slice sI il.length cI, .slice sO ol.length cO] 37) :: D) := by
                 have h9 := hM.sub (.cons _ (.cons_cons _ (.cons_cons _ (.cons_cons _ (.cons_cons _ (.cons_cons _ (.cons_cons _ (.cons_cons _ (.cons_cons _ (.cons_cons _ (.cons_cons _ (.refl _))))))))))))
                 rw [cellsF_append, List.length_append]
                 simpa [cellsF, List.append_assoc, Nat.add_assoc] using h9
               refine hK181 _ _ _ (by omega) ⟨i + 1, acc ++ [(gn191, gv192, gd193)], .slice so216 ((acc.length + 1)) ca217, false, rfl, ⟨(fun _ => (by rw [← hra rfl, insL_no hg194 hb198, List.append_assoc]; rfl)), (fun h => (by cases h)), by omega, by rw [List.length_append]; simp only [List.length_cons, List.length_nil]; omega⟩, hA.keep _ ⟨rfl, rfl, rfl, rfl, rfl, rfl, rfl, rfl, rfl, rfl, rfl, rfl, rfl, rfl, rfl, rfl, rfl, rfl, rfl, rfl, rfl, rfl, rfl, rfl, rfl, rfl, rfl, rfl, rfl, rfl, rfl, rfl, rfl, rfl, rfl, rfl, rfl, rfl, rfl, trivial⟩, hM⟩
           · obtain ⟨sv218, cv219, rfl⟩ := owns_sliceE (hM.has 2 rfl)
             refine seq_do (v := .bool false) hA rfl rfl rfl (does_un rfl un_not) ?_
             intro a hA
             refine seq_do hA rfl rfl rfl (does_move rfl) ?_
             intro a hA
             refine seq_skip hA rfl rfl rfl ?_
             intro a hA
             refine seq_skip hA rfl rfl rfl ?_
             intro a hA
             refine seq_skip hA rfl rfl rfl ?_
             intro a hA
             refine seq_skip hA rfl rfl rfl ?_
             intro a hA
             refine seq_skip hA rfl rfl rfl ?_
             intro a hA
             refine seq_skip hA rfl rfl rfl ?_
             intro a hA
             refine seq_skip hA rfl rfl rfl ?_
             intro a hA
             refine seq_do (v := .bool false) hA rfl rfl rfl (does_pick rfl rfl rfl rfl) ?_
             intro a hA
             refine seq_end ?_
             refine hK188 _ _ ?_
             refine wp_cond_false (hA.ev rfl) ?_
             refine wp_skip ?_
             refine hK187 _ _ ?_
             refine wp_region_lit ?_
             refine seq_do hA rfl rfl rfl (does_move rfl) ?_
             intro a hA
             refine seq_do hA rfl rfl rfl (does_move rfl) ?_
             intro a hA
             refine seq_do hA rfl rfl rfl (does_move rfl) ?_
             intro a hA
             obtain ⟨gn220, gv221, gd222, hg223⟩ := gf_get (gs := wthG nm gs) (i := i) (by omega)
             obtain ⟨go224, hgo225⟩ := row_addr hM 3 rfl (by omega)
             have h1g226 := gs_one hM (fun c hc => (List.mem_cons_of_mem _ (List.mem_cons_of_mem _ (List.mem_cons_of_mem _ (List.mem_cons_of_mem _ (List.mem_cons_of_mem _ (List.mem_cons_of_mem _ (List.mem_cons_of_mem _ (List.mem_cons_of_mem _ (List.mem_cons_of_mem _ (List.mem_cons_of_mem _ hc))))))))))) hGD _ (List.mem_filter.1 (List.mem_of_getElem? hg223)).1
             refine seq_do (v := .pointer (some ⟨go224, i * 2, none⟩)) hA rfl rfl rfl (does_indexX Try.underlying35 (by kernel_rfl) rfl rfl rfl hgo225 (show i < (wthG nm gs).length by omega)) ?_
             intro a hA
             refine seq_do (v := .agg #[.string gn220, gv221]) hA rfl rfl rfl (m_loadX2 hM 3 rfl hgo225 hg223 Wk_isS_88 rfl) ?_
             intro a hA
             refine s_litE (e := 88) (sz := 2) (m := 1) (vs := [.string gn220, gv221]) hA hM rfl rfl rfl (does_buildSlice rfl (by kernel_rfl)) rfl rfl (.inl (by decide)) ?_
             intro g227 w228 hM a hA
             refine s_appendE (e := 88) (sz := 2) (k := 3) (q := acc.length) (m := 1) (xs := (cellsF acc)) (news := [.string gn220, gv221]) (L' := fun v229 => (.row 88 2 (.slice (some ⟨g227, 0, none⟩) 1 1) 1 ([.string gn220, gv221]) :: .obj g174 (.cells #[.string nm, .slice so172 d.length ca173] 88) :: .row BY 1 (.slice so172 d.length ca173) d.length ((Lib.byteCells d)) :: .row 88 2 (v229) ((acc.length + 1)) (((cellsF acc) ++ [.string gn220, gv221])) :: .row 88 2 (.slice so161 ((wthG nm gs).length) ca162) ((wthG nm gs).length) ((cellsF (wthG nm gs))) :: .obj g155 (.cells #[.slice sF148 fs.length cF149, .slice sI150 il.length cI151, .slice sO152 ol.length cO153] 37) :: .row 88 2 (.slice sF148 fs.length cF149) fs.length ((cellsF gs)) :: .row BY 1 (.slice sI150 il.length cI151) il.length ((Lib.byteCells il)) :: .row BY 1 (.slice sO152 ol.length cO153) ol.length ((Lib.byteCells ol)) :: .obj g4 (.cells #[.slice none 0 0, .slice none 0 0, .slice none 0 0] 37) :: .obj g2 (.cells #[.slice sF fs.length cF_, .slice sI il.length cI, .slice sO ol.length cO] 37) :: D)) hA rfl rfl rfl (m_appendB (z := .agg #[.string ⟨#[]⟩, .slice none 0 0]) (by_ := 40) Try.underlying35 (by kernel_rfl) rfl rfl hM 3 rfl rfl 0 rfl rfl (one2 h1g226) (by decide) (by omega) (by omega)) (fun _ => rfl) ?_
             intro v229 w230 hM a hA
             obtain ⟨so231, ca232, rfl⟩ := owns_sliceE (hM.has 3 rfl)
             refine seq_do hA rfl rfl rfl (does_assign rfl) ?_
             intro a hA
             refine seq_end ?_
             refine hK186 _ _ ?_
             refine wp_region_lit ?_
             refine seq_do hA rfl rfl rfl (does_move rfl) ?_
             intro a hA
             refine seq_do (v := .int .i64 (((i + 1 : Nat) : Int))) hA rfl rfl rfl (does_bin rfl rfl (ar_add ((in_i64 (by omega) (by omega)).trans (by omega)))) ?_
             intro a hA
             refine seq_do hA rfl rfl rfl (does_assign rfl) ?_
             intro a hA
             refine seq_end ?_
             replace hM : Mg w w230 (.obj g174 (.cells #[.string nm, .slice so172 d.length ca173] 88) :: .row BY 1 (.slice so172 d.length ca173) d.length ((Lib.byteCells d)) :: .row 88 2 (.slice so231 ((acc.length + 1)) ca232) ((acc ++ [(gn220, gv221, gd222)]).length) ((cellsF (acc ++ [(gn220, gv221, gd222)]))) :: .row 88 2 (.slice so161 ((wthG nm gs).length) ca162) ((wthG nm gs).length) ((cellsF (wthG nm gs))) :: .obj g155 (.cells #[.slice sF148 fs.length cF149, .slice sI150 il.length cI151, .slice sO152 ol.length cO153] 37) :: .row 88 2 (.slice sF148 fs.length cF149) fs.length ((cellsF gs)) :: .row BY 1 (.slice sI150 il.length cI151) il.length ((Lib.byteCells il)) :: .row BY 1 (.slice sO152 ol.length cO153) ol.length ((Lib.byteCells ol)) :: .obj g4 (.cells #[.slice none 0 0, .slice none 0 0, .slice none 0 0] 37) :: .obj g2 (.cells #[.slice sF fs.length cF_, .slice sI il.length cI, .slice sO ol.length cO] 37) :: D) := by
               have h9 := hM.sub (.cons _ (.cons_cons _ (.cons_cons _ (.cons_cons _ (.cons_cons _ (.cons_cons _ (.cons_cons _ (.cons_cons _ (.cons_cons _ (.cons_cons _ (.cons_cons _ (.refl _))))))))))))
               rw [cellsF_append, List.length_append]
               simpa [cellsF, List.append_assoc, Nat.add_assoc] using h9
             refine hK181 _ _ _ (by omega) ⟨i + 1, acc ++ [(gn220, gv221, gd222)], .slice so231 ((acc.length + 1)) ca232, true, rfl, ⟨(fun h => (by cases h)), (fun _ => (by rw [← hrb rfl, drop_gf hg223, List.append_assoc]; rfl)), by omega, by rw [List.length_append]; simp only [List.length_cons, List.length_nil]; omega⟩, hA.keep _ ⟨rfl, rfl, rfl, rfl, rfl, rfl, rfl, rfl, rfl, rfl, rfl, rfl, rfl, rfl, rfl, rfl, rfl, rfl, rfl, rfl, rfl, rfl, rfl, rfl, rfl, rfl, rfl, rfl, rfl, rfl, rfl, rfl, rfl, rfl, rfl, rfl, rfl, rfl, rfl, trivial⟩, hM⟩
         · have hb185' := of_decide_eq_false hb185
           refine seq_do (v := .bool false) hA rfl rfl rfl (does_bin rfl rfl (fun w => (bin_lss w).trans (by rw [hb185]))) ?_
           intro a hA
           refine seq_end ?_
           refine hK184 _ _ ?_
           refine wp_cond_false (hA.ev rfl) ?_
           refine wp_exit ?_
           refine hK178 _ _ ?_
           refine wp_seq_k (fun K233 hK233 => ?_)
           refine wp_seq_k (fun K234 hK234 => ?_)
           refine wp_region_lit ?_
           refine seq_do hA rfl rfl rfl (does_move rfl) ?_
           intro a hA
           rcases pb with _ | _
           · obtain ⟨sv235, cv236, rfl⟩ := owns_sliceE (hM.has 2 rfl)
             refine seq_do (v := .bool true) hA rfl rfl rfl (does_un rfl un_not) ?_
             intro a hA
             refine seq_end ?_
             refine hK234 _ _ ?_
             refine wp_cond_true (hA.ev rfl) ?_
             refine wp_region_lit ?_
             refine seq_do hA rfl rfl rfl (does_move rfl) ?_
             intro a hA
             refine seq_do hA rfl rfl rfl (m_loadS hM Wk_isS_88 rfl 0 rfl (cs := [.string nm, .slice so172 d.length ca173]) rfl rfl) ?_
             intro a hA
             refine s_litE (e := 88) (sz := 2) (m := 1) (vs := [.string nm, .slice so172 d.length ca173]) hA hM rfl rfl rfl (does_buildSlice rfl (by kernel_rfl)) rfl rfl (.inl (by decide)) ?_
             intro g237 w238 hM a hA
             refine s_appendE (e := 88) (sz := 2) (k := 3) (q := acc.length) (m := 1) (xs := (cellsF acc)) (news := [.string nm, .slice so172 d.length ca173]) (L' := fun v239 => (.row 88 2 (.slice (some ⟨g237, 0, none⟩) 1 1) 1 ([.string nm, .slice so172 d.length ca173]) :: .obj g174 (.cells #[.string nm, .slice so172 d.length ca173] 88) :: .row BY 1 (.slice so172 d.length ca173) d.length ((Lib.byteCells d)) :: .row 88 2 (v239) ((acc.length + 1)) (((cellsF acc) ++ [.string nm, .slice so172 d.length ca173])) :: .row 88 2 (.slice so161 ((wthG nm gs).length) ca162) ((wthG nm gs).length) ((cellsF (wthG nm gs))) :: .obj g155 (.cells #[.slice sF148 fs.length cF149, .slice sI150 il.length cI151, .slice sO152 ol.length cO153] 37) :: .row 88 2 (.slice sF148 fs.length cF149) fs.length ((cellsF gs)) :: .row BY 1 (.slice sI150 il.length cI151) il.length ((Lib.byteCells il)) :: .row BY 1 (.slice sO152 ol.length cO153) ol.length ((Lib.byteCells ol)) :: .obj g4 (.cells #[.slice none 0 0, .slice none 0 0, .slice none 0 0] 37) :: .obj g2 (.cells #[.slice sF fs.length cF_, .slice sI il.length cI, .slice sO ol.length cO] 37) :: D)) hA rfl rfl rfl (m_appendB (z := .agg #[.string ⟨#[]⟩, .slice none 0 0]) (by_ := 40) Try.underlying35 (by kernel_rfl) rfl rfl hM 3 rfl rfl 0 rfl rfl (fun u hu => List.all_eq_true.1 (rfl : ([.string nm, .slice so172 d.length ca173] : List Value).all Value.oneCell' = true) u hu) (by decide) (by omega) (by omega)) (fun _ => rfl) ?_
             intro v239 w240 hM a hA
             obtain ⟨so241, ca242, rfl⟩ := owns_sliceE (hM.has 3 rfl)
             refine seq_do hA rfl rfl rfl (does_assign rfl) ?_
             intro a hA
             refine seq_end ?_
             refine hK233 _ _ ?_
             refine wp_seq_k (fun K243 hK243 => ?_)
             refine wp_region_lit ?_
             refine seq_do hA rfl rfl rfl (does_move rfl) ?_
             intro a hA
             refine seq_do (v := .pointer (some ⟨g155, 0, none⟩)) hA rfl rfl rfl (does_field Wk_fld_37_0 rfl rfl) ?_
             intro a hA
             refine s_store (us := [.slice so241 ((acc.length + 1)) ca242, .slice sI150 il.length cI151, .slice sO152 ol.length cO153]) (L' := (.row 88 2 (.slice (some ⟨g237, 0, none⟩) 1 1) 1 ([.string nm, .slice so172 d.length ca173]) :: .obj g174 (.cells #[.string nm, .slice so172 d.length ca173] 88) :: .row BY 1 (.slice so172 d.length ca173) d.length ((Lib.byteCells d)) :: .row 88 2 (.slice so241 ((acc.length + 1)) ca242) ((acc.length + 1)) (((cellsF acc) ++ [.string nm, .slice so172 d.length ca173])) :: .row 88 2 (.slice so161 ((wthG nm gs).length) ca162) ((wthG nm gs).length) ((cellsF (wthG nm gs))) :: .obj g155 (.cells #[.slice so241 ((acc.length + 1)) ca242, .slice sI150 il.length cI151, .slice sO152 ol.length cO153] 37) :: .row 88 2 (.slice sF148 fs.length cF149) fs.length ((cellsF gs)) :: .row BY 1 (.slice sI150 il.length cI151) il.length ((Lib.byteCells il)) :: .row BY 1 (.slice sO152 ol.length cO153) ol.length ((Lib.byteCells ol)) :: .obj g4 (.cells #[.slice none 0 0, .slice none 0 0, .slice none 0 0] 37) :: .obj g2 (.cells #[.slice sF fs.length cF_, .slice sI il.length cI, .slice sO ol.length cO] 37) :: D)) hA hM rfl rfl (m_store rfl rfl rfl (by kernel_rfl) hM 5 rfl rfl rfl) 5 rfl rfl rfl ?_
             intro w244 hM
             refine seq_end ?_
             refine hK243 _ _ ?_
             refine wp_seq_k (fun K245 hK245 => ?_)
             refine wp_region_lit ?_
             refine seq_do hA rfl rfl rfl (m_loadS hM Wk_isS_37 rfl 5 rfl (cs := [.slice so241 ((acc.length + 1)) ca242, .slice sI150 il.length cI151, .slice sO152 ol.length cO153]) rfl rfl) ?_
             intro a hA
             refine s_store (us := [.slice so241 ((acc.length + 1)) ca242, .slice sI150 il.length cI151, .slice sO152 ol.length cO153]) (L' := (.row 88 2 (.slice (some ⟨g237, 0, none⟩) 1 1) 1 ([.string nm, .slice so172 d.length ca173]) :: .obj g174 (.cells #[.string nm, .slice so172 d.length ca173] 88) :: .row BY 1 (.slice so172 d.length ca173) d.length ((Lib.byteCells d)) :: .row 88 2 (.slice so241 ((acc.length + 1)) ca242) ((acc.length + 1)) (((cellsF acc) ++ [.string nm, .slice so172 d.length ca173])) :: .row 88 2 (.slice so161 ((wthG nm gs).length) ca162) ((wthG nm gs).length) ((cellsF (wthG nm gs))) :: .obj g155 (.cells #[.slice so241 ((acc.length + 1)) ca242, .slice sI150 il.length cI151, .slice sO152 ol.length cO153] 37) :: .row 88 2 (.slice sF148 fs.length cF149) fs.length ((cellsF gs)) :: .row BY 1 (.slice sI150 il.length cI151) il.length ((Lib.byteCells il)) :: .row BY 1 (.slice sO152 ol.length cO153) ol.length ((Lib.byteCells ol)) :: .obj g4 (.cells #[.slice so241 ((acc.length + 1)) ca242, .slice sI150 il.length cI151, .slice sO152 ol.length cO153] 37) :: .obj g2 (.cells #[.slice sF fs.length cF_, .slice sI il.length cI, .slice sO ol.length cO] 37) :: D)) hA hM rfl rfl (m_store rfl rfl rfl (by kernel_rfl) hM 9 rfl rfl rfl) 9 rfl rfl rfl ?_
             intro w246 hM
             refine seq_do hA rfl rfl rfl (does_assign rfl) ?_
             intro a hA
             refine seq_end ?_
             refine hK245 _ _ ?_
             refine wp_ret ?_
             refine hret _ _ ?_
             refine ends (v := .tuple #[.agg #[.slice so241 ((acc.length + 1)) ca242, .slice sI150 il.length cI151, .slice sO152 ol.length cO153], .int .i64 0]) hA rfl (.cons (res_cellS hM Wk_isS_37 rfl 9 rfl (cs := [.slice so241 ((acc.length + 1)) ca242, .slice sI150 il.length cI151, .slice sO152 ol.length cO153]) rfl rfl) (.cons (res_tmp rfl) .nil)) rfl ?_
             rw [show putR nm d fs il ol = (0, putF nm d fs, il, ol) from by unfold putR; rw [if_neg (by rw [hb8]; decide), if_neg (by rw [hb13]; decide), if_neg (by omega), if_neg (fun k9 => by have k8 := k9.1; rw [hb23] at k8; cases k8)]]
             have hfin : acc ++ [(nm, .slice so172 d.length ca173, d)] = insL nm (nm, .slice so172 d.length ca173, d) (wthG nm gs) := by rw [← hra rfl, insL_end (by omega)]
             rw [show cellsF acc ++ [.string nm, .slice so172 d.length ca173] = cellsF (insL nm (nm, .slice so172 d.length ca173, d) (wthG nm gs)) from (by rw [← hfin, cellsF_append]; rfl)] at hM
             have hnn : acc.length + 1 = (insL nm (nm, .slice so172 d.length ca173, d) (wthG nm gs)).length := by rw [← hfin, List.length_append]; rfl
             have hrp : readF (insL nm (nm, .slice so172 d.length ca173, d) (wthG nm gs)) = putF nm d fs := by rw [readF_ins, readF_wth, hgr]; exact ins_put fs (rises_all fs _ hsp.2.2.2).2
             exact ret_own hM (noBld_cons (by simp) (noBld_cons (by simp) (noBld_cons (by simp) (noBld_cons (by simp) (noBld_cons (by simp) (noBld_cons (by simp) (noBld_cons (by simp) (noBld_cons (by simp) (noBld_cons (by simp) (noBld_cons (by simp) (noBld_cons (by simp) hnD))))))))))) (mem_at (k := 3) rfl) (mem_at (k := 7) rfl) (mem_at (k := 8) rfl) (gs_ins hGD (fun c hc => (List.mem_cons_of_mem _ (List.mem_cons_of_mem _ (List.mem_cons_of_mem _ (List.mem_cons_of_mem _ (List.mem_cons_of_mem _ (List.mem_cons_of_mem _ (List.mem_cons_of_mem _ (List.mem_cons_of_mem _ (List.mem_cons_of_mem _ (List.mem_cons_of_mem _ (List.mem_cons_of_mem _ hc)))))))))))) (mem_at (k := 2) rfl)) hrp (by rw [hnn, ← hrp, readF_len])
           · obtain ⟨sv247, cv248, rfl⟩ := owns_sliceE (hM.has 2 rfl)
             refine seq_do (v := .bool false) hA rfl rfl rfl (does_un rfl un_not) ?_
             intro a hA
             refine seq_end ?_
             refine hK234 _ _ ?_
             refine wp_cond_false (hA.ev rfl) ?_
             refine wp_skip ?_
             refine hK233 _ _ ?_
             refine wp_seq_k (fun K249 hK249 => ?_)
             refine wp_region_lit ?_
             refine seq_do hA rfl rfl rfl (does_move rfl) ?_
             intro a hA
             refine seq_do (v := .pointer (some ⟨g155, 0, none⟩)) hA rfl rfl rfl (does_field Wk_fld_37_0 rfl rfl) ?_
             intro a hA
             refine s_store (us := [.slice sv247 acc.length cv248, .slice sI150 il.length cI151, .slice sO152 ol.length cO153]) (L' := (.obj g174 (.cells #[.string nm, .slice so172 d.length ca173] 88) :: .row BY 1 (.slice so172 d.length ca173) d.length ((Lib.byteCells d)) :: .row 88 2 (.slice sv247 acc.length cv248) acc.length ((cellsF acc)) :: .row 88 2 (.slice so161 ((wthG nm gs).length) ca162) ((wthG nm gs).length) ((cellsF (wthG nm gs))) :: .obj g155 (.cells #[.slice sv247 acc.length cv248, .slice sI150 il.length cI151, .slice sO152 ol.length cO153] 37) :: .row 88 2 (.slice sF148 fs.length cF149) fs.length ((cellsF gs)) :: .row BY 1 (.slice sI150 il.length cI151) il.length ((Lib.byteCells il)) :: .row BY 1 (.slice sO152 ol.length cO153) ol.length ((Lib.byteCells ol)) :: .obj g4 (.cells #[.slice none 0 0, .slice none 0 0, .slice none 0 0] 37) :: .obj g2 (.cells #[.slice sF fs.length cF_, .slice sI il.length cI, .slice sO ol.length cO] 37) :: D)) hA hM rfl rfl (m_store rfl rfl rfl (by kernel_rfl) hM 4 rfl rfl rfl) 4 rfl rfl rfl ?_
             intro w250 hM
             refine seq_end ?_
             refine hK249 _ _ ?_
             refine wp_seq_k (fun K251 hK251 => ?_)
             refine wp_region_lit ?_
             refine seq_do hA rfl rfl rfl (m_loadS hM Wk_isS_37 rfl 4 rfl (cs := [.slice sv247 acc.length cv248, .slice sI150 il.length cI151, .slice sO152 ol.length cO153]) rfl rfl) ?_
             intro a hA
             refine s_store (us := [.slice sv247 acc.length cv248, .slice sI150 il.length cI151, .slice sO152 ol.length cO153]) (L' := (.obj g174 (.cells #[.string nm, .slice so172 d.length ca173] 88) :: .row BY 1 (.slice so172 d.length ca173) d.length ((Lib.byteCells d)) :: .row 88 2 (.slice sv247 acc.length cv248) acc.length ((cellsF acc)) :: .row 88 2 (.slice so161 ((wthG nm gs).length) ca162) ((wthG nm gs).length) ((cellsF (wthG nm gs))) :: .obj g155 (.cells #[.slice sv247 acc.length cv248, .slice sI150 il.length cI151, .slice sO152 ol.length cO153] 37) :: .row 88 2 (.slice sF148 fs.length cF149) fs.length ((cellsF gs)) :: .row BY 1 (.slice sI150 il.length cI151) il.length ((Lib.byteCells il)) :: .row BY 1 (.slice sO152 ol.length cO153) ol.length ((Lib.byteCells ol)) :: .obj g4 (.cells #[.slice sv247 acc.length cv248, .slice sI150 il.length cI151, .slice sO152 ol.length cO153] 37) :: .obj g2 (.cells #[.slice sF fs.length cF_, .slice sI il.length cI, .slice sO ol.length cO] 37) :: D)) hA hM rfl rfl (m_store rfl rfl rfl (by kernel_rfl) hM 8 rfl rfl rfl) 8 rfl rfl rfl ?_
             intro w252 hM
             refine seq_do hA rfl rfl rfl (does_assign rfl) ?_
             intro a hA
             refine seq_end ?_
             refine hK251 _ _ ?_
             refine wp_ret ?_
             refine hret _ _ ?_
             refine ends (v := .tuple #[.agg #[.slice sv247 acc.length cv248, .slice sI150 il.length cI151, .slice sO152 ol.length cO153], .int .i64 0]) hA rfl (.cons (res_cellS hM Wk_isS_37 rfl 8 rfl (cs := [.slice sv247 acc.length cv248, .slice sI150 il.length cI151, .slice sO152 ol.length cO153]) rfl rfl) (.cons (res_tmp rfl) .nil)) rfl ?_
             rw [show putR nm d fs il ol = (0, putF nm d fs, il, ol) from by unfold putR; rw [if_neg (by rw [hb8]; decide), if_neg (by rw [hb13]; decide), if_neg (by omega), if_neg (fun k9 => by have k8 := k9.1; rw [hb23] at k8; cases k8)]]
             have hfin : acc = insL nm (nm, .slice so172 d.length ca173, d) (wthG nm gs) := by rw [← hrb rfl, List.drop_eq_nil_of_le (by omega), List.append_nil]
             have hnn : acc.length = (insL nm (nm, .slice so172 d.length ca173, d) (wthG nm gs)).length := by rw [← hfin]
             rw [show cellsF acc = cellsF (insL nm (nm, .slice so172 d.length ca173, d) (wthG nm gs)) from by rw [← hfin]] at hM
             have hrp : readF (insL nm (nm, .slice so172 d.length ca173, d) (wthG nm gs)) = putF nm d fs := by rw [readF_ins, readF_wth, hgr]; exact ins_put fs (rises_all fs _ hsp.2.2.2).2
             exact ret_own hM (noBld_cons (by simp) (noBld_cons (by simp) (noBld_cons (by simp) (noBld_cons (by simp) (noBld_cons (by simp) (noBld_cons (by simp) (noBld_cons (by simp) (noBld_cons (by simp) (noBld_cons (by simp) (noBld_cons (by simp) hnD)))))))))) (mem_at (k := 2) rfl) (mem_at (k := 6) rfl) (mem_at (k := 7) rfl) (gs_ins hGD (fun c hc => (List.mem_cons_of_mem _ (List.mem_cons_of_mem _ (List.mem_cons_of_mem _ (List.mem_cons_of_mem _ (List.mem_cons_of_mem _ (List.mem_cons_of_mem _ (List.mem_cons_of_mem _ (List.mem_cons_of_mem _ (List.mem_cons_of_mem _ (List.mem_cons_of_mem _ hc))))))))))) (mem_at (k := 1) rfl)) hrp (by rw [hnn, ← hrp, readF_len])
   · refine seq_call hA rfl rfl rfl (enters_func rfl rfl (fun w => by kernel_rfl)) (rnamed_as hb13) ?_
     rintro _ w254 ⟨rfl, hb253⟩
     replace hM := hM.call hb253
     refine ⟨_, rfl, ?_⟩
     intro a hA
     refine seq_do (v := .bool true) hA rfl rfl rfl (does_un rfl un_not) ?_
     intro a hA
     refine seq_end ?_
     refine hK12 _ _ ?_
     refine wp_cond_true (hA.ev rfl) ?_
     refine wp_seq_k (fun K255 hK255 => ?_)
     refine wp_region_lit ?_
     refine seq_do (v := .agg #[.slice none 0 0, .slice none 0 0, .slice none 0 0]) hA rfl rfl rfl (does_build rfl (fun w => by kernel_rfl)) ?_
     intro a hA
     refine s_store (us := [.slice none 0 0, .slice none 0 0, .slice none 0 0]) (L' := (.obj g4 (.cells #[.slice none 0 0, .slice none 0 0, .slice none 0 0] 37) :: .obj g2 (.cells #[.slice sF fs.length cF_, .slice sI il.length cI, .slice sO ol.length cO] 37) :: [])) hA hM rfl rfl (m_store rfl rfl rfl (by kernel_rfl) hM 0 rfl rfl rfl) 0 rfl rfl rfl ?_
     intro w256 hM
     refine seq_do hA rfl rfl rfl (does_assign rfl) ?_
     intro a hA
     refine seq_end ?_
     refine hK255 _ _ ?_
     refine wp_ret ?_
     refine hret _ _ ?_
     refine ends (v := .tuple #[.agg #[.slice none 0 0, .slice none 0 0, .slice none 0 0], .int .i64 1]) hA rfl (.cons (res_cellS hM Wk_isS_37 rfl 0 rfl (cs := [.slice none 0 0, .slice none 0 0, .slice none 0 0]) rfl rfl) (.cons (res_tmp rfl) .nil)) rfl ?_
     rw [show putR nm d fs il ol = (1, [], [], []) from by unfold putR; rw [if_neg (by rw [hb8]; decide), if_pos hb13]]
     exact ret_zero hM
 · refine seq_call hA rfl rfl rfl (enters_func rfl rfl (fun w => by kernel_rfl)) (rsound_as (hF.below hM.bel) hn hb8) ?_
   rintro _ w258 ⟨rfl, hb257⟩
   replace hM := hM.call hb257
   refine ⟨_, rfl, ?_⟩
   intro a hA
   refine seq_do (v := .bool true) hA rfl rfl rfl (does_un rfl un_not) ?_
   intro a hA
   refine seq_end ?_
   refine hK7 _ _ ?_
   refine wp_cond_true (hA.ev rfl) ?_
   refine wp_seq_k (fun K259 hK259 => ?_)
   refine wp_region_lit ?_
   refine seq_do (v := .agg #[.slice none 0 0, .slice none 0 0, .slice none 0 0]) hA rfl rfl rfl (does_build rfl (fun w => by kernel_rfl)) ?_
   intro a hA
   refine s_store (us := [.slice none 0 0, .slice none 0 0, .slice none 0 0]) (L' := (.obj g4 (.cells #[.slice none 0 0, .slice none 0 0, .slice none 0 0] 37) :: .obj g2 (.cells #[.slice sF fs.length cF_, .slice sI il.length cI, .slice sO ol.length cO] 37) :: [])) hA hM rfl rfl (m_store rfl rfl rfl (by kernel_rfl) hM 0 rfl rfl rfl) 0 rfl rfl rfl ?_
   intro w260 hM
   refine seq_do hA rfl rfl rfl (does_assign rfl) ?_
   intro a hA
   refine seq_end ?_
   refine hK259 _ _ ?_
   refine wp_ret ?_
   refine hret _ _ ?_
   refine ends (v := .tuple #[.agg #[.slice none 0 0, .slice none 0 0, .slice none 0 0], .int .i64 2]) hA rfl (.cons (res_cellS hM Wk_isS_37 rfl 0 rfl (cs := [.slice none 0 0, .slice none 0 0, .slice none 0 0]) rfl rfl) (.cons (res_tmp rfl) .nil)) rfl ?_
   rw [show putR nm d fs il ol = (2, [], [], []) from by unfold putR; rw [if_pos hb8]]
   exact ret_zero hM
end Go.Proofs.Ytcjgjbaadmohbaa
