/- Walks of the document's calls. -/
import Derived.Test.YtcjgjbaadmohbaaWi
namespace Go.Proofs.Ytcjgjbaadmohbaa
open Go.RowKit
set_option linter.unusedVariables false
set_option linter.unusedSimpArgs false
set_option maxRecDepth 100000
theorem Wj_is1_24 : Is1 Try.prog 24 := ⟨⟨_, Try.underlying24, rfl⟩, by kernel_rfl⟩
theorem Wj_is1_35 : Is1 Try.prog 35 := ⟨⟨_, Try.underlying35, rfl⟩, by kernel_rfl⟩
theorem Wj_fld_37_0 : FieldAt Try.prog 37 0 0 := ⟨_, _, Try.underlying37, rfl, rfl, by kernel_rfl⟩
theorem Wj_fld_37_1 : FieldAt Try.prog 37 1 1 := ⟨_, _, Try.underlying37, rfl, rfl, by kernel_rfl⟩
theorem Wj_fld_37_2 : FieldAt Try.prog 37 2 2 := ⟨_, _, Try.underlying37, rfl, rfl, by kernel_rfl⟩
theorem Wj_fld_88_1 : FieldAt Try.prog 88 1 1 := ⟨_, _, Try.underlying88, rfl, rfl, by kernel_rfl⟩
theorem Wj_isS_37 : IsS Try.prog 37 3 := ⟨⟨_, Try.underlying37⟩, by kernel_rfl⟩
open Go.Lib
theorem byte_cell {l : List UInt8} {i : Nat} (h : i < l.length) : (Lib.byteCells l)[i * 1]? = some (.int .u8 (((l.getD i 0).toNat : Nat) : Int)) := by
  simp [Lib.byteCells, List.getD_eq_getElem?_getD, h]
theorem wrD_len {an : Nat} {d fd : List UInt8} (h : an ≤ fd.length) (h1 : an + d.length ≤ 65536) (h2 : fd.length ≤ 65536) : (wrD an d fd).length ≤ 65536 := by
  unfold wrD
  rw [List.length_append, List.length_append, List.length_take, List.length_drop]
  omega
theorem wr_put {nm : ByteArray} {z : Int} {an i0 : Nat} {d d0 : List UInt8} {fs : List Fl} {il ol : List UInt8} (hs : soundS fs il ol = true) (hi : fs[i0]? = some (nm, d0)) (hl : lookF nm fs = some d0) (hz : z = ((an : Nat) : Int)) (h1 : an ≤ d0.length) (h2 : an + d.length ≤ 65536) : putR nm (wrD an d d0) fs il ol = wrR nm z d fs il ol := by
  have hf := sound_file hs hi
  have hw := wrD_len h1 h2 hf.2.2
  have e1 : putR nm (wrD an d d0) fs il ol = (0, putF nm (wrD an d d0) fs, il, ol) := by
    unfold putR
    rw [if_neg (by rw [hs]; decide), if_neg (by rw [show namedB nm = true from decide_eq_true ⟨hf.1, hf.2.1⟩]; decide), if_neg (by omega), if_neg (by rintro ⟨h, _⟩; rw [hl] at h; cases h)]
  have e2 : wrR nm z d fs il ol = (0, putF nm (wrD z.toNat d d0) fs, il, ol) := by
    unfold wrR
    rw [if_neg (by rw [hs]; decide), hl]
    simp only
    rw [if_neg (by omega), if_neg (by omega)]
  rw [e1, e2, show z.toNat = an from by omega]
theorem snoc_drop {acc l : List UInt8} {i : Nat} (h : i < l.length) : acc ++ l.drop i = (acc ++ [l.getD i 0]) ++ l.drop (i + 1) := by
  rw [List.drop_eq_getElem_cons h, List.append_assoc]
  congr 1
  show _ = l.getD i 0 :: _
  rw [List.getD_eq_getElem?_getD, List.getElem?_eq_getElem h]
  rfl
theorem rget_any {w : World} {sF sI sO : Option Addr} {cF_ cI cO : Nat} {fs : List Fl} {il ol : List UInt8} {nm : ByteArray} (hF : Rf w sF fs) (hI : Rb w sI il) (hO : Rb w sO ol) (hn : fs.length ≤ 4398046511104) : Calls Try.prog 28 #[.agg #[.slice sF fs.length cF_, .slice sI il.length cI, .slice sO ol.length cO], .string nm] w fun e w' => ∃ v, e = .returned (.tuple #[v, .int .i64 (getR nm fs il ol).1]) ∧ Mg w w' [.row BY 1 v (getR nm fs il ol).2.length (Lib.byteCells (getR nm fs il ol).2)] := by
 have hM : Mg w w ([]) := Mg.start w
 refine walk_of (l := [(0, .agg #[.slice sF fs.length cF_, .slice sI il.length cI, .slice sO ol.length cO]), (1, .string nm)]) Try.func28 rfl Try.ntmps28 rfl rfl ?_
 intro Q hret hnorm hP a hA
 refine wp_seq_k (fun K1 hK1 => ?_)
 refine wp_region_lit ?_
 refine s_new (vs := [.slice sF fs.length cF_, .slice sI il.length cI, .slice sO ol.length cO]) (t := 37) hA hM rfl rfl rfl (fun g => .pointer (some ⟨g, 0, none⟩)) (does_box rfl rfl) (by decide) ?_
 intro g2 w3 hM a hA
 refine seq_do hA rfl rfl rfl (does_assign rfl) ?_
 intro a hA
 refine seq_do hA rfl rfl rfl (does_assign rfl) ?_
 intro a hA
 refine seq_end ?_
 refine hK1 _ _ ?_
 refine wp_seq_k (fun K4 hK4 => ?_)
 refine wp_seq_k (fun K5 hK5 => ?_)
 refine wp_region_lit ?_
 refine seq_do hA rfl rfl rfl (m_loadS hM Wj_isS_37 rfl 0 rfl (cs := [.slice sF fs.length cF_, .slice sI il.length cI, .slice sO ol.length cO]) rfl rfl) ?_
 intro a hA
 rcases Bool.eq_false_or_eq_true (soundS fs il ol) with hb6 | hb6
 · refine seq_call hA rfl rfl rfl (enters_func rfl rfl (fun w => by kernel_rfl)) (rsound_as (hF.below hM.bel) hn hb6) ?_
   rintro _ w8 ⟨rfl, hb7⟩
   replace hM := hM.call hb7
   refine ⟨_, rfl, ?_⟩
   intro a hA
   refine seq_do (v := .bool false) hA rfl rfl rfl (does_un rfl un_not) ?_
   intro a hA
   refine seq_end ?_
   refine hK5 _ _ ?_
   refine wp_cond_false (hA.ev rfl) ?_
   refine wp_skip ?_
   refine hK4 _ _ ?_
   refine wp_seq_k (fun K9 hK9 => ?_)
   have hsp := sound_parts hb6
   refine wp_region_lit ?_
   refine seq_do hA rfl rfl rfl (m_loadS hM Wj_isS_37 rfl 0 rfl (cs := [.slice sF fs.length cF_, .slice sI il.length cI, .slice sO ol.length cO]) rfl rfl) ?_
   intro a hA
   refine seq_do hA rfl rfl rfl (does_move rfl) ?_
   intro a hA
   rcases Bool.eq_false_or_eq_true ((lookF nm fs).isNone) with hb10 | hb10
   · obtain ⟨hfx, hl0⟩ := find_none hb10
     refine seq_call hA rfl rfl rfl (enters_func rfl rfl (fun w => by kernel_rfl)) ((show Calls Try.prog 58 #[.agg #[.slice sF fs.length cF_, .slice sI il.length cI, .slice sO ol.length cO], .string nm] _ (fun e w' => e = .returned (.int .i64 (-1)) ∧ _) from (hfx ▸ rfind_any (nm := nm) (cF_ := cF_) (cI := cI) (cO := cO) (sI := sI) (sO := sO) (il := il) (ol := ol) (hF.below hM.bel) hn))) ?_
     rintro _ w12 ⟨rfl, hb11⟩
     replace hM := hM.call hb11
     refine ⟨_, rfl, ?_⟩
     intro a hA
     refine seq_do hA rfl rfl rfl (does_assign rfl) ?_
     intro a hA
     refine seq_end ?_
     refine hK9 _ _ ?_
     refine wp_seq_k (fun K13 hK13 => ?_)
     refine wp_seq_k (fun K14 hK14 => ?_)
     refine wp_region_lit ?_
     refine seq_do hA rfl rfl rfl (does_move rfl) ?_
     intro a hA
     refine seq_do (v := .bool true) hA rfl rfl rfl (does_bin rfl rfl (fun w => by kernel_rfl)) ?_
     intro a hA
     refine seq_end ?_
     refine hK14 _ _ ?_
     refine wp_cond_true (hA.ev rfl) ?_
     refine wp_seq_k (fun K15 hK15 => ?_)
     refine wp_region_lit ?_
     refine seq_do hA rfl rfl rfl (does_assign rfl) ?_
     intro a hA
     refine seq_do hA rfl rfl rfl (does_assign rfl) ?_
     intro a hA
     refine seq_end ?_
     refine hK15 _ _ ?_
     refine wp_ret ?_
     refine hret _ _ ?_
     refine ends (v := .tuple #[.slice none 0 0, .int .i64 7]) hA rfl (.cons (res_tmp rfl) (.cons (res_tmp rfl) .nil)) rfl ?_
     rw [show getR nm fs il ol = (7, []) from by unfold getR; rw [if_neg (by rw [hb6]; decide), hl0]]
     exact ⟨_, rfl, nil_row hM⟩
   · obtain ⟨i0, d0, hfx, hi0, hl0⟩ := find_some hb10
     have hi0l := (List.getElem?_eq_some_iff.1 hi0).1
     refine seq_call hA rfl rfl rfl (enters_func rfl rfl (fun w => by kernel_rfl)) ((show Calls Try.prog 58 #[.agg #[.slice sF fs.length cF_, .slice sI il.length cI, .slice sO ol.length cO], .string nm] _ (fun e w' => e = .returned (.int .i64 (((i0 : Nat) : Int))) ∧ _) from (hfx ▸ rfind_any (nm := nm) (cF_ := cF_) (cI := cI) (cO := cO) (sI := sI) (sO := sO) (il := il) (ol := ol) (hF.below hM.bel) hn))) ?_
     rintro _ w17 ⟨rfl, hb16⟩
     replace hM := hM.call hb16
     refine ⟨_, rfl, ?_⟩
     intro a hA
     refine seq_do hA rfl rfl rfl (does_assign rfl) ?_
     intro a hA
     refine seq_end ?_
     refine hK9 _ _ ?_
     refine wp_seq_k (fun K18 hK18 => ?_)
     refine wp_seq_k (fun K19 hK19 => ?_)
     refine wp_region_lit ?_
     refine seq_do hA rfl rfl rfl (does_move rfl) ?_
     intro a hA
     refine seq_do (v := .bool false) hA rfl rfl rfl (does_bin rfl rfl (fun w => (bin_lss w).trans (by rw [show (decide (((i0 : Nat) : Int) < 0)) = false from decide_eq_false (by omega)]))) ?_
     intro a hA
     refine seq_end ?_
     refine hK19 _ _ ?_
     refine wp_cond_false (hA.ev rfl) ?_
     refine wp_skip ?_
     refine hK18 _ _ ?_
     refine wp_seq_k (fun K20 hK20 => ?_)
     obtain ⟨fn21, fd22, hf27⟩ := file_get (fs := fs) (i := i0) (by omega)
     obtain ⟨bf23, of24, sj25, cj26, hf28, hf29, hf30, hf31, hf32, hf33⟩ := hF.pos _ _ hf27
     have hsf9 := sound_file hb6 hf27
     refine wp_region_lit ?_
     refine s_lit (vs := []) hA hM rfl rfl rfl (does_buildSlice rfl (by kernel_rfl)) rfl rfl (noBld_cons (by simp) (noBld_quiet quietL_nil)) ?_
     intro g34 w35 hM a hA
     refine seq_do (v := .pointer (some ⟨g2, 0, none⟩)) hA rfl rfl rfl (does_field Wj_fld_37_0 rfl rfl) ?_
     intro a hA
     refine seq_do hA rfl rfl rfl (m_load1 hM Wj_is1_35 rfl 1 rfl rfl) ?_
     intro a hA
     refine seq_do hA rfl rfl rfl (does_move rfl) ?_
     intro a hA
     refine seq_do (v := .pointer (some ⟨bf23, of24 + i0 * 2, none⟩)) hA rfl rfl rfl (does_indexA Try.underlying35 (by kernel_rfl) rfl rfl rfl hf28 (show i0 < fs.length by omega)) ?_
     intro a hA
     refine seq_do (v := .pointer (some ⟨bf23, of24 + i0 * 2 + 1, none⟩)) hA rfl rfl rfl (does_field Wj_fld_88_1 rfl rfl) ?_
     intro a hA
     refine seq_do (v := .slice sj25 fd22.length cj26) hA rfl rfl rfl (m_loadR hM hf29 hf31 Wj_is1_24 rfl) ?_
     intro a hA
     refine s_append (k := 0) (q := 0) (m := fd22.length) (xs := []) (news := Lib.byteCells fd22) (L' := fun v36 => (.row BY 1 (v36) ((0 + fd22.length)) (([] ++ Lib.byteCells fd22)) :: .obj g2 (.cells #[.slice sF fs.length cF_, .slice sI il.length cI, .slice sO ol.length cO] 37) :: [])) hA rfl rfl rfl (m_appendA Try.underlying24 (by kernel_rfl) hM 0 rfl rfl (show Rb _ _ fd22 from hf32.below hM.bel) rfl (by first | omega | (simp only [List.length_nil]; omega) | (simp only [List.length_take, List.length_drop, List.length_nil]; omega))) (fun _ => rfl) ?_
     intro v36 w37 hM a hA
     replace hM : Mg w w37 (.row BY 1 (v36) fd22.length ((Lib.byteCells fd22)) :: .obj g2 (.cells #[.slice sF fs.length cF_, .slice sI il.length cI, .slice sO ol.length cO] 37) :: []) := by
       have h9 := hM
       rw [Nat.zero_add, List.nil_append] at h9
       exact h9
     obtain ⟨so38, ca39, rfl⟩ := owns_sliceE (hM.has 0 rfl)
     refine seq_do hA rfl rfl rfl (does_assign rfl) ?_
     intro a hA
     refine seq_do hA rfl rfl rfl (does_assign rfl) ?_
     intro a hA
     refine seq_end ?_
     refine hK20 _ _ ?_
     refine wp_ret ?_
     refine hret _ _ ?_
     refine ends (v := .tuple #[.slice so38 fd22.length ca39, .int .i64 0]) hA rfl (.cons (res_tmp rfl) (.cons (res_tmp rfl) .nil)) rfl ?_
     have hq9 : fd22 = d0 := congrArg Prod.snd (Option.some.inj (hf27.symm.trans hi0))
     rw [show getR nm fs il ol = (0, fd22) from by unfold getR; rw [if_neg (by rw [hb6]; decide), hl0, hq9]]
     exact ⟨_, rfl, hM.sub (.cons_cons _ (.cons _ (.refl _)))⟩
 · refine seq_call hA rfl rfl rfl (enters_func rfl rfl (fun w => by kernel_rfl)) (rsound_as (hF.below hM.bel) hn hb6) ?_
   rintro _ w41 ⟨rfl, hb40⟩
   replace hM := hM.call hb40
   refine ⟨_, rfl, ?_⟩
   intro a hA
   refine seq_do (v := .bool true) hA rfl rfl rfl (does_un rfl un_not) ?_
   intro a hA
   refine seq_end ?_
   refine hK5 _ _ ?_
   refine wp_cond_true (hA.ev rfl) ?_
   refine wp_seq_k (fun K42 hK42 => ?_)
   refine wp_region_lit ?_
   refine seq_do hA rfl rfl rfl (does_assign rfl) ?_
   intro a hA
   refine seq_do hA rfl rfl rfl (does_assign rfl) ?_
   intro a hA
   refine seq_end ?_
   refine hK42 _ _ ?_
   refine wp_ret ?_
   refine hret _ _ ?_
   refine ends (v := .tuple #[.slice none 0 0, .int .i64 2]) hA rfl (.cons (res_tmp rfl) (.cons (res_tmp rfl) .nil)) rfl ?_
   rw [show getR nm fs il ol = (2, []) from by unfold getR; rw [if_pos hb6]]
   exact ⟨_, rfl, nil_row hM⟩
theorem rdel_any {w : World} {sF sI sO : Option Addr} {cF_ cI cO : Nat} {fs : List Fl} {il ol : List UInt8} {nm : ByteArray} (hF : Rf w sF fs) (hI : Rb w sI il) (hO : Rb w sO ol) (hn : fs.length ≤ 4398046511104) : Calls Try.prog 22 #[.agg #[.slice sF fs.length cF_, .slice sI il.length cI, .slice sO ol.length cO], .string nm] w fun e w' => RetW w e w' (delR nm fs il ol) := by
 have hM : Mg w w ([]) := Mg.start w
 refine walk_of (l := [(0, .agg #[.slice sF fs.length cF_, .slice sI il.length cI, .slice sO ol.length cO]), (1, .string nm)]) Try.func22 rfl Try.ntmps22 rfl rfl ?_
 intro Q hret hnorm hP a hA
 refine wp_seq_k (fun K1 hK1 => ?_)
 refine wp_region_lit ?_
 refine s_new (vs := [.slice sF fs.length cF_, .slice sI il.length cI, .slice sO ol.length cO]) (t := 37) hA hM rfl rfl rfl (fun g => .pointer (some ⟨g, 0, none⟩)) (does_box rfl rfl) (by decide) ?_
 intro g2 w3 hM a hA
 refine s_new (vs := [.slice none 0 0, .slice none 0 0, .slice none 0 0]) (t := 37) hA hM rfl rfl rfl (fun g => .pointer (some ⟨g, 0, none⟩)) (does_alloc (z := .agg #[.slice none 0 0, .slice none 0 0, .slice none 0 0]) (by kernel_rfl) rfl) (by decide) ?_
 intro g4 w5 hM a hA
 refine seq_do hA rfl rfl rfl (does_assign rfl) ?_
 intro a hA
 refine seq_end ?_
 refine hK1 _ _ ?_
 refine wp_seq_k (fun K6 hK6 => ?_)
 refine wp_seq_k (fun K7 hK7 => ?_)
 refine wp_region_lit ?_
 refine seq_do hA rfl rfl rfl (m_loadS hM Wj_isS_37 rfl 1 rfl (cs := [.slice sF fs.length cF_, .slice sI il.length cI, .slice sO ol.length cO]) rfl rfl) ?_
 intro a hA
 rcases Bool.eq_false_or_eq_true (soundS fs il ol) with hb8 | hb8
 · refine seq_call hA rfl rfl rfl (enters_func rfl rfl (fun w => by kernel_rfl)) (rsound_as (hF.below hM.bel) hn hb8) ?_
   rintro _ w10 ⟨rfl, hb9⟩
   replace hM := hM.call hb9
   refine ⟨_, rfl, ?_⟩
   intro a hA
   refine seq_do (v := .bool false) hA rfl rfl rfl (does_un rfl un_not) ?_
   intro a hA
   refine seq_end ?_
   refine hK7 _ _ ?_
   refine wp_cond_false (hA.ev rfl) ?_
   refine wp_skip ?_
   refine hK6 _ _ ?_
   refine wp_seq_k (fun K11 hK11 => ?_)
   refine wp_seq_k (fun K12 hK12 => ?_)
   have hsp := sound_parts hb8
   refine wp_region_lit ?_
   refine seq_do hA rfl rfl rfl (m_loadS hM Wj_isS_37 rfl 1 rfl (cs := [.slice sF fs.length cF_, .slice sI il.length cI, .slice sO ol.length cO]) rfl rfl) ?_
   intro a hA
   refine seq_do hA rfl rfl rfl (does_move rfl) ?_
   intro a hA
   rcases Bool.eq_false_or_eq_true ((lookF nm fs).isNone) with hb13 | hb13
   · obtain ⟨hfx, hl0⟩ := find_none hb13
     refine seq_call hA rfl rfl rfl (enters_func rfl rfl (fun w => by kernel_rfl)) ((show Calls Try.prog 58 #[.agg #[.slice sF fs.length cF_, .slice sI il.length cI, .slice sO ol.length cO], .string nm] _ (fun e w' => e = .returned (.int .i64 (-1)) ∧ _) from (hfx ▸ rfind_any (nm := nm) (cF_ := cF_) (cI := cI) (cO := cO) (sI := sI) (sO := sO) (il := il) (ol := ol) (hF.below hM.bel) hn))) ?_
     rintro _ w15 ⟨rfl, hb14⟩
     replace hM := hM.call hb14
     refine ⟨_, rfl, ?_⟩
     intro a hA
     refine seq_do (v := .bool true) hA rfl rfl rfl (does_bin rfl rfl (fun w => by kernel_rfl)) ?_
     intro a hA
     refine seq_end ?_
     refine hK12 _ _ ?_
     refine wp_cond_true (hA.ev rfl) ?_
     refine wp_seq_k (fun K16 hK16 => ?_)
     refine wp_region_lit ?_
     refine seq_do (v := .agg #[.slice none 0 0, .slice none 0 0, .slice none 0 0]) hA rfl rfl rfl (does_build rfl (fun w => by kernel_rfl)) ?_
     intro a hA
     refine s_store (us := [.slice none 0 0, .slice none 0 0, .slice none 0 0]) (L' := (.obj g4 (.cells #[.slice none 0 0, .slice none 0 0, .slice none 0 0] 37) :: .obj g2 (.cells #[.slice sF fs.length cF_, .slice sI il.length cI, .slice sO ol.length cO] 37) :: [])) hA hM rfl rfl (m_store rfl rfl rfl (by kernel_rfl) hM 0 rfl rfl rfl) 0 rfl rfl rfl ?_
     intro w17 hM
     refine seq_do hA rfl rfl rfl (does_assign rfl) ?_
     intro a hA
     refine seq_end ?_
     refine hK16 _ _ ?_
     refine wp_ret ?_
     refine hret _ _ ?_
     refine ends (v := .tuple #[.agg #[.slice none 0 0, .slice none 0 0, .slice none 0 0], .int .i64 7]) hA rfl (.cons (res_cellS hM Wj_isS_37 rfl 0 rfl (cs := [.slice none 0 0, .slice none 0 0, .slice none 0 0]) rfl rfl) (.cons (res_tmp rfl) .nil)) rfl ?_
     rw [show delR nm fs il ol = (7, [], [], []) from by unfold delR; rw [if_neg (by rw [hb8]; decide), if_pos hb13]]
     exact ret_zero hM
   · obtain ⟨i0, d0, hfx, hi0, hl0⟩ := find_some hb13
     have hi0l := (List.getElem?_eq_some_iff.1 hi0).1
     refine seq_call hA rfl rfl rfl (enters_func rfl rfl (fun w => by kernel_rfl)) ((show Calls Try.prog 58 #[.agg #[.slice sF fs.length cF_, .slice sI il.length cI, .slice sO ol.length cO], .string nm] _ (fun e w' => e = .returned (.int .i64 (((i0 : Nat) : Int))) ∧ _) from (hfx ▸ rfind_any (nm := nm) (cF_ := cF_) (cI := cI) (cO := cO) (sI := sI) (sO := sO) (il := il) (ol := ol) (hF.below hM.bel) hn))) ?_
     rintro _ w19 ⟨rfl, hb18⟩
     replace hM := hM.call hb18
     refine ⟨_, rfl, ?_⟩
     intro a hA
     refine seq_do (v := .bool false) hA rfl rfl rfl (does_bin rfl rfl (fun w => (bin_lss w).trans (by rw [show (decide (((i0 : Nat) : Int) < 0)) = false from decide_eq_false (by omega)]))) ?_
     intro a hA
     refine seq_end ?_
     refine hK12 _ _ ?_
     refine wp_cond_false (hA.ev rfl) ?_
     refine wp_skip ?_
     refine hK11 _ _ ?_
     refine wp_seq_k (fun K20 hK20 => ?_)
     refine wp_region_lit ?_
     refine seq_do hA rfl rfl rfl (m_loadS hM Wj_isS_37 rfl 1 rfl (cs := [.slice sF fs.length cF_, .slice sI il.length cI, .slice sO ol.length cO]) rfl rfl) ?_
     intro a hA
     refine seq_call hA rfl rfl rfl (enters_func rfl rfl (fun w => by kernel_rfl)) (rcopy_any (cF_ := cF_) (cI := cI) (cO := cO) (hF.below hM.bel) (hI.below hM.bel) (hO.below hM.bel) (Bd.sound hb8)) ?_
     rintro _ w32 ⟨vF21, vI22, vO23, rfl, hOw24⟩
     obtain ⟨gs, D, hM25, hGD, hgr, hnD⟩ := hOw24
     obtain ⟨sF26, cF27, rfl⟩ := owns_sliceE (hM25.has 0 rfl)
     obtain ⟨sI28, cI29, rfl⟩ := owns_sliceE (hM25.has 1 rfl)
     obtain ⟨sO30, cO31, rfl⟩ := owns_sliceE (hM25.has 2 rfl)
     have hgl : gs.length = fs.length := by rw [← hgr, readF_len]
     replace hM : Mg w w32 (.row 88 2 (.slice sF26 fs.length cF27) fs.length ((cellsF gs)) :: .row BY 1 (.slice sI28 il.length cI29) il.length ((Lib.byteCells il)) :: .row BY 1 (.slice sO30 ol.length cO31) ol.length ((Lib.byteCells ol)) :: .obj g4 (.cells #[.slice none 0 0, .slice none 0 0, .slice none 0 0] 37) :: .obj g2 (.cells #[.slice sF fs.length cF_, .slice sI il.length cI, .slice sO ol.length cO] 37) :: D) := ((hM.both hM25 (noBld_cons (by simp) (noBld_cons (by simp) (noBld_quiet quietL_nil))) (noBld_cons (by simp) (noBld_cons (by simp) (noBld_cons (by simp) hnD)))).perm (perm_own _ _ _ _ _))
     refine ⟨_, rfl, ?_⟩
     intro a hA
     refine s_new (vs := [.slice none 0 0, .slice none 0 0, .slice none 0 0]) (t := 37) hA hM rfl rfl rfl (fun g => .pointer (some ⟨g, 0, none⟩)) (does_alloc (z := .agg #[.slice none 0 0, .slice none 0 0, .slice none 0 0]) (by kernel_rfl) rfl) (by decide) ?_
     intro g33 w34 hM a hA
     refine s_store (us := [.slice sF26 fs.length cF27, .slice sI28 il.length cI29, .slice sO30 ol.length cO31]) (L' := (.obj g33 (.cells #[.slice sF26 fs.length cF27, .slice sI28 il.length cI29, .slice sO30 ol.length cO31] 37) :: .row 88 2 (.slice sF26 fs.length cF27) fs.length ((cellsF gs)) :: .row BY 1 (.slice sI28 il.length cI29) il.length ((Lib.byteCells il)) :: .row BY 1 (.slice sO30 ol.length cO31) ol.length ((Lib.byteCells ol)) :: .obj g4 (.cells #[.slice none 0 0, .slice none 0 0, .slice none 0 0] 37) :: .obj g2 (.cells #[.slice sF fs.length cF_, .slice sI il.length cI, .slice sO ol.length cO] 37) :: D)) hA hM rfl rfl (m_store rfl rfl rfl (by kernel_rfl) hM 0 rfl rfl rfl) 0 rfl rfl rfl ?_
     intro w35 hM
     refine seq_end ?_
     refine hK20 _ _ ?_
     refine wp_seq_k (fun K36 hK36 => ?_)
     refine wp_region_lit ?_
     refine seq_do (v := .pointer (some ⟨g33, 0, none⟩)) hA rfl rfl rfl (does_field Wj_fld_37_0 rfl rfl) ?_
     intro a hA
     refine seq_do hA rfl rfl rfl (m_load1 hM Wj_is1_35 rfl 0 rfl rfl) ?_
     intro a hA
     refine seq_do hA rfl rfl rfl (does_move rfl) ?_
     intro a hA
     refine seq_call hA rfl rfl rfl (enters_func rfl rfl (fun w => by kernel_rfl)) ((show Calls Try.prog 59 #[.slice sF26 fs.length cF27, .string nm] _ _ from hgl ▸ rwithout_any (nm := nm) (rc_own hM 1 rfl) (gs_one hM (fun c hc => (List.mem_cons_of_mem _ (List.mem_cons_of_mem _ (List.mem_cons_of_mem _ (List.mem_cons_of_mem _ (List.mem_cons_of_mem _ (List.mem_cons_of_mem _ hc))))))) hGD) (by omega))) ?_
     rintro _ w41 ⟨v37, rfl, hM38⟩
     obtain ⟨so39, ca40, rfl⟩ := owns_sliceE (hM38.has 0 rfl)
     replace hM : Mg w w41 (.row 88 2 (.slice so39 ((wthG nm gs).length) ca40) ((wthG nm gs).length) ((cellsF (wthG nm gs))) :: .obj g33 (.cells #[.slice sF26 fs.length cF27, .slice sI28 il.length cI29, .slice sO30 ol.length cO31] 37) :: .row 88 2 (.slice sF26 fs.length cF27) fs.length ((cellsF gs)) :: .row BY 1 (.slice sI28 il.length cI29) il.length ((Lib.byteCells il)) :: .row BY 1 (.slice sO30 ol.length cO31) ol.length ((Lib.byteCells ol)) :: .obj g4 (.cells #[.slice none 0 0, .slice none 0 0, .slice none 0 0] 37) :: .obj g2 (.cells #[.slice sF fs.length cF_, .slice sI il.length cI, .slice sO ol.length cO] 37) :: D) := (hM.both hM38 (noBld_cons (by simp) (noBld_cons (by simp) (noBld_cons (by simp) (noBld_cons (by simp) (noBld_cons (by simp) (noBld_cons (by simp) hnD)))))) (noBld_cons (by simp) (noBld_quiet quietL_nil)))
     refine ⟨_, rfl, ?_⟩
     intro a hA
     refine seq_do (v := .pointer (some ⟨g33, 0, none⟩)) hA rfl rfl rfl (does_field Wj_fld_37_0 rfl rfl) ?_
     intro a hA
     refine s_store (us := [.slice so39 ((wthG nm gs).length) ca40, .slice sI28 il.length cI29, .slice sO30 ol.length cO31]) (L' := (.row 88 2 (.slice so39 ((wthG nm gs).length) ca40) ((wthG nm gs).length) ((cellsF (wthG nm gs))) :: .obj g33 (.cells #[.slice so39 ((wthG nm gs).length) ca40, .slice sI28 il.length cI29, .slice sO30 ol.length cO31] 37) :: .row 88 2 (.slice sF26 fs.length cF27) fs.length ((cellsF gs)) :: .row BY 1 (.slice sI28 il.length cI29) il.length ((Lib.byteCells il)) :: .row BY 1 (.slice sO30 ol.length cO31) ol.length ((Lib.byteCells ol)) :: .obj g4 (.cells #[.slice none 0 0, .slice none 0 0, .slice none 0 0] 37) :: .obj g2 (.cells #[.slice sF fs.length cF_, .slice sI il.length cI, .slice sO ol.length cO] 37) :: D)) hA hM rfl rfl (m_store rfl rfl rfl (by kernel_rfl) hM 1 rfl rfl rfl) 1 rfl rfl rfl ?_
     intro w42 hM
     refine seq_end ?_
     refine hK36 _ _ ?_
     refine wp_seq_k (fun K43 hK43 => ?_)
     refine wp_region_lit ?_
     refine seq_do hA rfl rfl rfl (m_loadS hM Wj_isS_37 rfl 1 rfl (cs := [.slice so39 ((wthG nm gs).length) ca40, .slice sI28 il.length cI29, .slice sO30 ol.length cO31]) rfl rfl) ?_
     intro a hA
     refine s_store (us := [.slice so39 ((wthG nm gs).length) ca40, .slice sI28 il.length cI29, .slice sO30 ol.length cO31]) (L' := (.row 88 2 (.slice so39 ((wthG nm gs).length) ca40) ((wthG nm gs).length) ((cellsF (wthG nm gs))) :: .obj g33 (.cells #[.slice so39 ((wthG nm gs).length) ca40, .slice sI28 il.length cI29, .slice sO30 ol.length cO31] 37) :: .row 88 2 (.slice sF26 fs.length cF27) fs.length ((cellsF gs)) :: .row BY 1 (.slice sI28 il.length cI29) il.length ((Lib.byteCells il)) :: .row BY 1 (.slice sO30 ol.length cO31) ol.length ((Lib.byteCells ol)) :: .obj g4 (.cells #[.slice so39 ((wthG nm gs).length) ca40, .slice sI28 il.length cI29, .slice sO30 ol.length cO31] 37) :: .obj g2 (.cells #[.slice sF fs.length cF_, .slice sI il.length cI, .slice sO ol.length cO] 37) :: D)) hA hM rfl rfl (m_store rfl rfl rfl (by kernel_rfl) hM 5 rfl rfl rfl) 5 rfl rfl rfl ?_
     intro w44 hM
     refine seq_do hA rfl rfl rfl (does_assign rfl) ?_
     intro a hA
     refine seq_end ?_
     refine hK43 _ _ ?_
     refine wp_ret ?_
     refine hret _ _ ?_
     refine ends (v := .tuple #[.agg #[.slice so39 ((wthG nm gs).length) ca40, .slice sI28 il.length cI29, .slice sO30 ol.length cO31], .int .i64 0]) hA rfl (.cons (res_cellS hM Wj_isS_37 rfl 5 rfl (cs := [.slice so39 ((wthG nm gs).length) ca40, .slice sI28 il.length cI29, .slice sO30 ol.length cO31]) rfl rfl) (.cons (res_tmp rfl) .nil)) rfl ?_
     rw [show delR nm fs il ol = (0, delF nm fs, il, ol) from by unfold delR; rw [if_neg (by rw [hb8]; decide), if_neg (by rw [hb13]; decide)]]
     have hrp : readF (wthG nm gs) = delF nm fs := by rw [readF_wth, hgr]
     exact ret_own hM (noBld_cons (by simp) (noBld_cons (by simp) (noBld_cons (by simp) (noBld_cons (by simp) (noBld_cons (by simp) (noBld_cons (by simp) (noBld_cons (by simp) hnD))))))) (mem_at (k := 0) rfl) (mem_at (k := 3) rfl) (mem_at (k := 4) rfl) (gs_wth hGD (fun c hc => (List.mem_cons_of_mem _ (List.mem_cons_of_mem _ (List.mem_cons_of_mem _ (List.mem_cons_of_mem _ (List.mem_cons_of_mem _ (List.mem_cons_of_mem _ (List.mem_cons_of_mem _ hc))))))))) hrp (by rw [← hrp, readF_len])
 · refine seq_call hA rfl rfl rfl (enters_func rfl rfl (fun w => by kernel_rfl)) (rsound_as (hF.below hM.bel) hn hb8) ?_
   rintro _ w46 ⟨rfl, hb45⟩
   replace hM := hM.call hb45
   refine ⟨_, rfl, ?_⟩
   intro a hA
   refine seq_do (v := .bool true) hA rfl rfl rfl (does_un rfl un_not) ?_
   intro a hA
   refine seq_end ?_
   refine hK7 _ _ ?_
   refine wp_cond_true (hA.ev rfl) ?_
   refine wp_seq_k (fun K47 hK47 => ?_)
   refine wp_region_lit ?_
   refine seq_do (v := .agg #[.slice none 0 0, .slice none 0 0, .slice none 0 0]) hA rfl rfl rfl (does_build rfl (fun w => by kernel_rfl)) ?_
   intro a hA
   refine s_store (us := [.slice none 0 0, .slice none 0 0, .slice none 0 0]) (L' := (.obj g4 (.cells #[.slice none 0 0, .slice none 0 0, .slice none 0 0] 37) :: .obj g2 (.cells #[.slice sF fs.length cF_, .slice sI il.length cI, .slice sO ol.length cO] 37) :: [])) hA hM rfl rfl (m_store rfl rfl rfl (by kernel_rfl) hM 0 rfl rfl rfl) 0 rfl rfl rfl ?_
   intro w48 hM
   refine seq_do hA rfl rfl rfl (does_assign rfl) ?_
   intro a hA
   refine seq_end ?_
   refine hK47 _ _ ?_
   refine wp_ret ?_
   refine hret _ _ ?_
   refine ends (v := .tuple #[.agg #[.slice none 0 0, .slice none 0 0, .slice none 0 0], .int .i64 2]) hA rfl (.cons (res_cellS hM Wj_isS_37 rfl 0 rfl (cs := [.slice none 0 0, .slice none 0 0, .slice none 0 0]) rfl rfl) (.cons (res_tmp rfl) .nil)) rfl ?_
   rw [show delR nm fs il ol = (2, [], [], []) from by unfold delR; rw [if_pos hb8]]
   exact ret_zero hM
theorem rsay_any {w : World} {sF sI sO : Option Addr} {cF_ cI cO : Nat} {fs : List Fl} {il ol : List UInt8} {so : Option Addr} {cd : Nat} {d : List UInt8} (hF : Rf w sF fs) (hI : Rb w sI il) (hO : Rb w sO ol) (hn : fs.length ≤ 4398046511104) (hb : Rb w so d) (hbl : d.length ≤ 140737488351232) : Calls Try.prog 26 #[.agg #[.slice sF fs.length cF_, .slice sI il.length cI, .slice sO ol.length cO], .slice so d.length cd] w fun e w' => RetW w e w' (sayR d fs il ol) := by
 have hM : Mg w w ([]) := Mg.start w
 refine walk_of (l := [(0, .agg #[.slice sF fs.length cF_, .slice sI il.length cI, .slice sO ol.length cO]), (1, .slice so d.length cd)]) Try.func26 rfl Try.ntmps26 rfl rfl ?_
 intro Q hret hnorm hP a hA
 refine wp_seq_k (fun K1 hK1 => ?_)
 refine wp_region_lit ?_
 refine s_new (vs := [.slice sF fs.length cF_, .slice sI il.length cI, .slice sO ol.length cO]) (t := 37) hA hM rfl rfl rfl (fun g => .pointer (some ⟨g, 0, none⟩)) (does_box rfl rfl) (by decide) ?_
 intro g2 w3 hM a hA
 refine s_new (vs := [.slice none 0 0, .slice none 0 0, .slice none 0 0]) (t := 37) hA hM rfl rfl rfl (fun g => .pointer (some ⟨g, 0, none⟩)) (does_alloc (z := .agg #[.slice none 0 0, .slice none 0 0, .slice none 0 0]) (by kernel_rfl) rfl) (by decide) ?_
 intro g4 w5 hM a hA
 refine seq_do hA rfl rfl rfl (does_assign rfl) ?_
 intro a hA
 refine seq_end ?_
 refine hK1 _ _ ?_
 refine wp_seq_k (fun K6 hK6 => ?_)
 refine wp_seq_k (fun K7 hK7 => ?_)
 refine wp_region_lit ?_
 refine seq_do hA rfl rfl rfl (m_loadS hM Wj_isS_37 rfl 1 rfl (cs := [.slice sF fs.length cF_, .slice sI il.length cI, .slice sO ol.length cO]) rfl rfl) ?_
 intro a hA
 rcases Bool.eq_false_or_eq_true (soundS fs il ol) with hb8 | hb8
 · refine seq_call hA rfl rfl rfl (enters_func rfl rfl (fun w => by kernel_rfl)) (rsound_as (hF.below hM.bel) hn hb8) ?_
   rintro _ w10 ⟨rfl, hb9⟩
   replace hM := hM.call hb9
   refine ⟨_, rfl, ?_⟩
   intro a hA
   refine seq_do (v := .bool false) hA rfl rfl rfl (does_un rfl un_not) ?_
   intro a hA
   refine seq_end ?_
   refine hK7 _ _ ?_
   refine wp_cond_false (hA.ev rfl) ?_
   refine wp_skip ?_
   refine hK6 _ _ ?_
   refine wp_seq_k (fun K11 hK11 => ?_)
   refine wp_seq_k (fun K12 hK12 => ?_)
   have hsp := sound_parts hb8
   refine wp_region_lit ?_
   refine seq_do (v := .pointer (some ⟨g2, 2, none⟩)) hA rfl rfl rfl (does_field Wj_fld_37_2 rfl rfl) ?_
   intro a hA
   refine seq_do hA rfl rfl rfl (m_load1 hM Wj_is1_24 rfl 1 rfl rfl) ?_
   intro a hA
   refine seq_do (v := .int .i64 (((ol.length : Nat) : Int))) hA rfl rfl rfl (does_len Try.underlying24 rfl) ?_
   intro a hA
   refine seq_do hA rfl rfl rfl (does_move rfl) ?_
   intro a hA
   refine seq_do (v := .int .i64 (((d.length : Nat) : Int))) hA rfl rfl rfl (does_len Try.underlying24 rfl) ?_
   intro a hA
   refine seq_do (v := .int .i64 (((ol.length + d.length : Nat) : Int))) hA rfl rfl rfl (does_bin rfl rfl (ar_add ((in_i64 (by omega) (by omega)).trans (by omega)))) ?_
   intro a hA
   rcases Bool.eq_false_or_eq_true (decide (65536 < ((ol.length + d.length : Nat) : Int))) with hb13 | hb13
   · have hb13' := of_decide_eq_true hb13
     refine seq_do (v := .bool true) hA rfl rfl rfl (does_bin rfl rfl (fun w => (bin_gtr w).trans (by rw [hb13]))) ?_
     intro a hA
     refine seq_end ?_
     refine hK12 _ _ ?_
     refine wp_cond_true (hA.ev rfl) ?_
     refine wp_seq_k (fun K14 hK14 => ?_)
     refine wp_region_lit ?_
     refine seq_do (v := .agg #[.slice none 0 0, .slice none 0 0, .slice none 0 0]) hA rfl rfl rfl (does_build rfl (fun w => by kernel_rfl)) ?_
     intro a hA
     refine s_store (us := [.slice none 0 0, .slice none 0 0, .slice none 0 0]) (L' := (.obj g4 (.cells #[.slice none 0 0, .slice none 0 0, .slice none 0 0] 37) :: .obj g2 (.cells #[.slice sF fs.length cF_, .slice sI il.length cI, .slice sO ol.length cO] 37) :: [])) hA hM rfl rfl (m_store rfl rfl rfl (by kernel_rfl) hM 0 rfl rfl rfl) 0 rfl rfl rfl ?_
     intro w15 hM
     refine seq_do hA rfl rfl rfl (does_assign rfl) ?_
     intro a hA
     refine seq_end ?_
     refine hK14 _ _ ?_
     refine wp_ret ?_
     refine hret _ _ ?_
     refine ends (v := .tuple #[.agg #[.slice none 0 0, .slice none 0 0, .slice none 0 0], .int .i64 4]) hA rfl (.cons (res_cellS hM Wj_isS_37 rfl 0 rfl (cs := [.slice none 0 0, .slice none 0 0, .slice none 0 0]) rfl rfl) (.cons (res_tmp rfl) .nil)) rfl ?_
     rw [show sayR d fs il ol = (4, [], [], []) from by unfold sayR; rw [if_neg (by rw [hb8]; decide), if_pos (by omega)]]
     exact ret_zero hM
   · have hb13' := of_decide_eq_false hb13
     refine seq_do (v := .bool false) hA rfl rfl rfl (does_bin rfl rfl (fun w => (bin_gtr w).trans (by rw [hb13]))) ?_
     intro a hA
     refine seq_end ?_
     refine hK12 _ _ ?_
     refine wp_cond_false (hA.ev rfl) ?_
     refine wp_skip ?_
     refine hK11 _ _ ?_
     refine wp_seq_k (fun K16 hK16 => ?_)
     refine wp_region_lit ?_
     refine seq_do hA rfl rfl rfl (m_loadS hM Wj_isS_37 rfl 1 rfl (cs := [.slice sF fs.length cF_, .slice sI il.length cI, .slice sO ol.length cO]) rfl rfl) ?_
     intro a hA
     refine seq_call hA rfl rfl rfl (enters_func rfl rfl (fun w => by kernel_rfl)) (rcopy_any (cF_ := cF_) (cI := cI) (cO := cO) (hF.below hM.bel) (hI.below hM.bel) (hO.below hM.bel) (Bd.sound hb8)) ?_
     rintro _ w28 ⟨vF17, vI18, vO19, rfl, hOw20⟩
     obtain ⟨gs, D, hM21, hGD, hgr, hnD⟩ := hOw20
     obtain ⟨sF22, cF23, rfl⟩ := owns_sliceE (hM21.has 0 rfl)
     obtain ⟨sI24, cI25, rfl⟩ := owns_sliceE (hM21.has 1 rfl)
     obtain ⟨sO26, cO27, rfl⟩ := owns_sliceE (hM21.has 2 rfl)
     have hgl : gs.length = fs.length := by rw [← hgr, readF_len]
     replace hM : Mg w w28 (.row 88 2 (.slice sF22 fs.length cF23) fs.length ((cellsF gs)) :: .row BY 1 (.slice sI24 il.length cI25) il.length ((Lib.byteCells il)) :: .row BY 1 (.slice sO26 ol.length cO27) ol.length ((Lib.byteCells ol)) :: .obj g4 (.cells #[.slice none 0 0, .slice none 0 0, .slice none 0 0] 37) :: .obj g2 (.cells #[.slice sF fs.length cF_, .slice sI il.length cI, .slice sO ol.length cO] 37) :: D) := ((hM.both hM21 (noBld_cons (by simp) (noBld_cons (by simp) (noBld_quiet quietL_nil))) (noBld_cons (by simp) (noBld_cons (by simp) (noBld_cons (by simp) hnD)))).perm (perm_own _ _ _ _ _))
     refine ⟨_, rfl, ?_⟩
     intro a hA
     refine s_new (vs := [.slice none 0 0, .slice none 0 0, .slice none 0 0]) (t := 37) hA hM rfl rfl rfl (fun g => .pointer (some ⟨g, 0, none⟩)) (does_alloc (z := .agg #[.slice none 0 0, .slice none 0 0, .slice none 0 0]) (by kernel_rfl) rfl) (by decide) ?_
     intro g29 w30 hM a hA
     refine s_store (us := [.slice sF22 fs.length cF23, .slice sI24 il.length cI25, .slice sO26 ol.length cO27]) (L' := (.obj g29 (.cells #[.slice sF22 fs.length cF23, .slice sI24 il.length cI25, .slice sO26 ol.length cO27] 37) :: .row 88 2 (.slice sF22 fs.length cF23) fs.length ((cellsF gs)) :: .row BY 1 (.slice sI24 il.length cI25) il.length ((Lib.byteCells il)) :: .row BY 1 (.slice sO26 ol.length cO27) ol.length ((Lib.byteCells ol)) :: .obj g4 (.cells #[.slice none 0 0, .slice none 0 0, .slice none 0 0] 37) :: .obj g2 (.cells #[.slice sF fs.length cF_, .slice sI il.length cI, .slice sO ol.length cO] 37) :: D)) hA hM rfl rfl (m_store rfl rfl rfl (by kernel_rfl) hM 0 rfl rfl rfl) 0 rfl rfl rfl ?_
     intro w31 hM
     refine seq_end ?_
     refine hK16 _ _ ?_
     refine wp_seq_k (fun K32 hK32 => ?_)
     refine wp_region_lit ?_
     refine seq_do (v := .pointer (some ⟨g29, 2, none⟩)) hA rfl rfl rfl (does_field Wj_fld_37_2 rfl rfl) ?_
     intro a hA
     refine seq_do hA rfl rfl rfl (m_load1 hM Wj_is1_24 rfl 0 rfl rfl) ?_
     intro a hA
     refine seq_do hA rfl rfl rfl (does_move rfl) ?_
     intro a hA
     refine s_append (k := 3) (q := ol.length) (m := d.length) (xs := (Lib.byteCells ol)) (news := Lib.byteCells d) (L' := fun v33 => (.obj g29 (.cells #[.slice sF22 fs.length cF23, .slice sI24 il.length cI25, .slice sO26 ol.length cO27] 37) :: .row 88 2 (.slice sF22 fs.length cF23) fs.length ((cellsF gs)) :: .row BY 1 (.slice sI24 il.length cI25) il.length ((Lib.byteCells il)) :: .row BY 1 (v33) ((ol.length + d.length)) (((Lib.byteCells ol) ++ Lib.byteCells d)) :: .obj g4 (.cells #[.slice none 0 0, .slice none 0 0, .slice none 0 0] 37) :: .obj g2 (.cells #[.slice sF fs.length cF_, .slice sI il.length cI, .slice sO ol.length cO] 37) :: D)) hA rfl rfl rfl (m_appendA Try.underlying24 (by kernel_rfl) hM 3 rfl rfl (show Rb _ _ d from hb.below hM.bel) rfl (by first | omega | (simp only [List.length_nil]; omega) | (simp only [List.length_take, List.length_drop, List.length_nil]; omega))) (fun _ => rfl) ?_
     intro v33 w34 hM a hA
     replace hM : Mg w w34 (.obj g29 (.cells #[.slice sF22 fs.length cF23, .slice sI24 il.length cI25, .slice sO26 ol.length cO27] 37) :: .row 88 2 (.slice sF22 fs.length cF23) fs.length ((cellsF gs)) :: .row BY 1 (.slice sI24 il.length cI25) il.length ((Lib.byteCells il)) :: .row BY 1 (v33) ((ol ++ d).length) ((Lib.byteCells (ol ++ d))) :: .obj g4 (.cells #[.slice none 0 0, .slice none 0 0, .slice none 0 0] 37) :: .obj g2 (.cells #[.slice sF fs.length cF_, .slice sI il.length cI, .slice sO ol.length cO] 37) :: D) := by
       have h9 := hM
       rw [← List.length_append, ← Lib.byteCells_append] at h9
       exact h9
     obtain ⟨so35, ca36, rfl⟩ := owns_sliceE (hM.has 3 rfl)
     refine seq_do (v := .pointer (some ⟨g29, 2, none⟩)) hA rfl rfl rfl (does_field Wj_fld_37_2 rfl rfl) ?_
     intro a hA
     refine s_store (us := [.slice sF22 fs.length cF23, .slice sI24 il.length cI25, .slice so35 ((ol ++ d).length) ca36]) (L' := (.obj g29 (.cells #[.slice sF22 fs.length cF23, .slice sI24 il.length cI25, .slice so35 ((ol ++ d).length) ca36] 37) :: .row 88 2 (.slice sF22 fs.length cF23) fs.length ((cellsF gs)) :: .row BY 1 (.slice sI24 il.length cI25) il.length ((Lib.byteCells il)) :: .row BY 1 (.slice so35 ((ol ++ d).length) ca36) ((ol ++ d).length) ((Lib.byteCells (ol ++ d))) :: .obj g4 (.cells #[.slice none 0 0, .slice none 0 0, .slice none 0 0] 37) :: .obj g2 (.cells #[.slice sF fs.length cF_, .slice sI il.length cI, .slice sO ol.length cO] 37) :: D)) hA hM rfl rfl (m_store rfl rfl rfl (by kernel_rfl) hM 0 rfl rfl rfl) 0 rfl rfl rfl ?_
     intro w37 hM
     refine seq_end ?_
     refine hK32 _ _ ?_
     refine wp_seq_k (fun K38 hK38 => ?_)
     refine wp_region_lit ?_
     refine seq_do hA rfl rfl rfl (m_loadS hM Wj_isS_37 rfl 0 rfl (cs := [.slice sF22 fs.length cF23, .slice sI24 il.length cI25, .slice so35 ((ol ++ d).length) ca36]) rfl rfl) ?_
     intro a hA
     refine s_store (us := [.slice sF22 fs.length cF23, .slice sI24 il.length cI25, .slice so35 ((ol ++ d).length) ca36]) (L' := (.obj g29 (.cells #[.slice sF22 fs.length cF23, .slice sI24 il.length cI25, .slice so35 ((ol ++ d).length) ca36] 37) :: .row 88 2 (.slice sF22 fs.length cF23) fs.length ((cellsF gs)) :: .row BY 1 (.slice sI24 il.length cI25) il.length ((Lib.byteCells il)) :: .row BY 1 (.slice so35 ((ol ++ d).length) ca36) ((ol ++ d).length) ((Lib.byteCells (ol ++ d))) :: .obj g4 (.cells #[.slice sF22 fs.length cF23, .slice sI24 il.length cI25, .slice so35 ((ol ++ d).length) ca36] 37) :: .obj g2 (.cells #[.slice sF fs.length cF_, .slice sI il.length cI, .slice sO ol.length cO] 37) :: D)) hA hM rfl rfl (m_store rfl rfl rfl (by kernel_rfl) hM 4 rfl rfl rfl) 4 rfl rfl rfl ?_
     intro w39 hM
     refine seq_do hA rfl rfl rfl (does_assign rfl) ?_
     intro a hA
     refine seq_end ?_
     refine hK38 _ _ ?_
     refine wp_ret ?_
     refine hret _ _ ?_
     refine ends (v := .tuple #[.agg #[.slice sF22 fs.length cF23, .slice sI24 il.length cI25, .slice so35 ((ol ++ d).length) ca36], .int .i64 0]) hA rfl (.cons (res_cellS hM Wj_isS_37 rfl 4 rfl (cs := [.slice sF22 fs.length cF23, .slice sI24 il.length cI25, .slice so35 ((ol ++ d).length) ca36]) rfl rfl) (.cons (res_tmp rfl) .nil)) rfl ?_
     rw [show sayR d fs il ol = (0, fs, il, ol ++ d) from by unfold sayR; rw [if_neg (by rw [hb8]; decide), if_neg (by omega)]]
     exact ret_own hM (noBld_cons (by simp) (noBld_cons (by simp) (noBld_cons (by simp) (noBld_cons (by simp) (noBld_cons (by simp) (noBld_cons (by simp) hnD)))))) (mem_at (k := 1) rfl) (mem_at (k := 2) rfl) (mem_at (k := 3) rfl) (gs_same hGD (fun c hc => (List.mem_cons_of_mem _ (List.mem_cons_of_mem _ (List.mem_cons_of_mem _ (List.mem_cons_of_mem _ (List.mem_cons_of_mem _ (List.mem_cons_of_mem _ hc)))))))) hgr rfl
 · refine seq_call hA rfl rfl rfl (enters_func rfl rfl (fun w => by kernel_rfl)) (rsound_as (hF.below hM.bel) hn hb8) ?_
   rintro _ w41 ⟨rfl, hb40⟩
   replace hM := hM.call hb40
   refine ⟨_, rfl, ?_⟩
   intro a hA
   refine seq_do (v := .bool true) hA rfl rfl rfl (does_un rfl un_not) ?_
   intro a hA
   refine seq_end ?_
   refine hK7 _ _ ?_
   refine wp_cond_true (hA.ev rfl) ?_
   refine wp_seq_k (fun K42 hK42 => ?_)
   refine wp_region_lit ?_
   refine seq_do (v := .agg #[.slice none 0 0, .slice none 0 0, .slice none 0 0]) hA rfl rfl rfl (does_build rfl (fun w => by kernel_rfl)) ?_
   intro a hA
   refine s_store (us := [.slice none 0 0, .slice none 0 0, .slice none 0 0]) (L' := (.obj g4 (.cells #[.slice none 0 0, .slice none 0 0, .slice none 0 0] 37) :: .obj g2 (.cells #[.slice sF fs.length cF_, .slice sI il.length cI, .slice sO ol.length cO] 37) :: [])) hA hM rfl rfl (m_store rfl rfl rfl (by kernel_rfl) hM 0 rfl rfl rfl) 0 rfl rfl rfl ?_
   intro w43 hM
   refine seq_do hA rfl rfl rfl (does_assign rfl) ?_
   intro a hA
   refine seq_end ?_
   refine hK42 _ _ ?_
   refine wp_ret ?_
   refine hret _ _ ?_
   refine ends (v := .tuple #[.agg #[.slice none 0 0, .slice none 0 0, .slice none 0 0], .int .i64 2]) hA rfl (.cons (res_cellS hM Wj_isS_37 rfl 0 rfl (cs := [.slice none 0 0, .slice none 0 0, .slice none 0 0]) rfl rfl) (.cons (res_tmp rfl) .nil)) rfl ?_
   rw [show sayR d fs il ol = (2, [], [], []) from by unfold sayR; rw [if_pos hb8]]
   exact ret_zero hM
theorem rtake_any {w : World} {sF sI sO : Option Addr} {cF_ cI cO : Nat} {fs : List Fl} {il ol : List UInt8} {z : Int} (hF : Rf w sF fs) (hI : Rb w sI il) (hO : Rb w sO ol) (hn : fs.length ≤ 4398046511104) (hcI : il.length ≤ cI) : Calls Try.prog 24 #[.agg #[.slice sF fs.length cF_, .slice sI il.length cI, .slice sO ol.length cO], .int .i64 z] w fun e w' => RetT w e w' (takeR z fs il ol) := by
 have hM : Mg w w ([]) := Mg.start w
 refine walk_of (l := [(0, .agg #[.slice sF fs.length cF_, .slice sI il.length cI, .slice sO ol.length cO]), (1, .int .i64 z)]) Try.func24 rfl Try.ntmps24 rfl rfl ?_
 intro Q hret hnorm hP a hA
 refine wp_seq_k (fun K1 hK1 => ?_)
 refine wp_region_lit ?_
 refine s_new (vs := [.slice sF fs.length cF_, .slice sI il.length cI, .slice sO ol.length cO]) (t := 37) hA hM rfl rfl rfl (fun g => .pointer (some ⟨g, 0, none⟩)) (does_box rfl rfl) (by decide) ?_
 intro g2 w3 hM a hA
 refine seq_do hA rfl rfl rfl (does_assign rfl) ?_
 intro a hA
 refine s_new (vs := [.slice none 0 0, .slice none 0 0, .slice none 0 0]) (t := 37) hA hM rfl rfl rfl (fun g => .pointer (some ⟨g, 0, none⟩)) (does_alloc (z := .agg #[.slice none 0 0, .slice none 0 0, .slice none 0 0]) (by kernel_rfl) rfl) (by decide) ?_
 intro g4 w5 hM a hA
 refine seq_do hA rfl rfl rfl (does_assign rfl) ?_
 intro a hA
 refine seq_end ?_
 refine hK1 _ _ ?_
 refine wp_seq_k (fun K6 hK6 => ?_)
 refine wp_seq_k (fun K7 hK7 => ?_)
 refine wp_region_lit ?_
 refine seq_do hA rfl rfl rfl (m_loadS hM Wj_isS_37 rfl 1 rfl (cs := [.slice sF fs.length cF_, .slice sI il.length cI, .slice sO ol.length cO]) rfl rfl) ?_
 intro a hA
 rcases Bool.eq_false_or_eq_true (soundS fs il ol) with hb8 | hb8
 · refine seq_call hA rfl rfl rfl (enters_func rfl rfl (fun w => by kernel_rfl)) (rsound_as (hF.below hM.bel) hn hb8) ?_
   rintro _ w10 ⟨rfl, hb9⟩
   replace hM := hM.call hb9
   refine ⟨_, rfl, ?_⟩
   intro a hA
   refine seq_do (v := .bool false) hA rfl rfl rfl (does_un rfl un_not) ?_
   intro a hA
   refine seq_end ?_
   refine hK7 _ _ ?_
   refine wp_cond_false (hA.ev rfl) ?_
   refine wp_skip ?_
   refine hK6 _ _ ?_
   refine wp_seq_k (fun K11 hK11 => ?_)
   refine wp_seq_k (fun K12 hK12 => ?_)
   have hsp := sound_parts hb8
   refine wp_region_lit ?_
   refine seq_do hA rfl rfl rfl (does_move rfl) ?_
   intro a hA
   rcases Bool.eq_false_or_eq_true (decide (z < 0)) with hb13 | hb13
   · have hb13' := of_decide_eq_true hb13
     refine seq_do (v := .bool true) hA rfl rfl rfl (does_bin rfl rfl (fun w => (bin_lss w).trans (by rw [hb13]))) ?_
     intro a hA
     refine seq_end ?_
     refine hK12 _ _ ?_
     refine wp_cond_true (hA.ev rfl) ?_
     refine wp_seq_k (fun K14 hK14 => ?_)
     refine wp_region_lit ?_
     refine seq_do (v := .agg #[.slice none 0 0, .slice none 0 0, .slice none 0 0]) hA rfl rfl rfl (does_build rfl (fun w => by kernel_rfl)) ?_
     intro a hA
     refine seq_do hA rfl rfl rfl (does_assign rfl) ?_
     intro a hA
     refine s_store (us := [.slice none 0 0, .slice none 0 0, .slice none 0 0]) (L' := (.obj g4 (.cells #[.slice none 0 0, .slice none 0 0, .slice none 0 0] 37) :: .obj g2 (.cells #[.slice sF fs.length cF_, .slice sI il.length cI, .slice sO ol.length cO] 37) :: [])) hA hM rfl rfl (m_store rfl rfl rfl (by kernel_rfl) hM 0 rfl rfl rfl) 0 rfl rfl rfl ?_
     intro w15 hM
     refine seq_do hA rfl rfl rfl (does_assign rfl) ?_
     intro a hA
     refine seq_end ?_
     refine hK14 _ _ ?_
     refine wp_ret ?_
     refine hret _ _ ?_
     refine ends (v := .tuple #[.slice none 0 0, .agg #[.slice none 0 0, .slice none 0 0, .slice none 0 0], .int .i64 1]) hA rfl (.cons (res_tmp rfl) (.cons (res_cellS hM Wj_isS_37 rfl 0 rfl (cs := [.slice none 0 0, .slice none 0 0, .slice none 0 0]) rfl rfl) (.cons (res_tmp rfl) .nil))) rfl ?_
     rw [show takeR z fs il ol = ([], 1, [], [], []) from by unfold takeR; rw [if_neg (by rw [hb8]; decide), if_pos (by omega)]]
     exact zeroT hM
   · have hb13' := of_decide_eq_false hb13
     refine seq_do (v := .bool false) hA rfl rfl rfl (does_bin rfl rfl (fun w => (bin_lss w).trans (by rw [hb13]))) ?_
     intro a hA
     refine seq_end ?_
     refine hK12 _ _ ?_
     refine wp_cond_false (hA.ev rfl) ?_
     refine wp_skip ?_
     refine hK11 _ _ ?_
     refine wp_seq_k (fun K16 hK16 => ?_)
     refine wp_seq_k (fun K17 hK17 => ?_)
     refine wp_region_lit ?_
     refine seq_do hA rfl rfl rfl (does_move rfl) ?_
     intro a hA
     refine seq_do (v := .pointer (some ⟨g2, 1, none⟩)) hA rfl rfl rfl (does_field Wj_fld_37_1 rfl rfl) ?_
     intro a hA
     refine seq_do hA rfl rfl rfl (m_load1 hM Wj_is1_24 rfl 1 rfl rfl) ?_
     intro a hA
     refine seq_do (v := .int .i64 (((il.length : Nat) : Int))) hA rfl rfl rfl (does_len Try.underlying24 rfl) ?_
     intro a hA
     rcases Bool.eq_false_or_eq_true (decide (((il.length : Nat) : Int) < z)) with hb18 | hb18
     · have hb18' := of_decide_eq_true hb18
       refine seq_do (v := .bool true) hA rfl rfl rfl (does_bin rfl rfl (fun w => (bin_gtr w).trans (by rw [hb18]))) ?_
       intro a hA
       refine seq_end ?_
       refine hK17 _ _ ?_
       refine wp_cond_true (hA.ev rfl) ?_
       refine wp_seq_k (fun K19 hK19 => ?_)
       refine wp_region_lit ?_
       refine seq_do (v := .agg #[.slice none 0 0, .slice none 0 0, .slice none 0 0]) hA rfl rfl rfl (does_build rfl (fun w => by kernel_rfl)) ?_
       intro a hA
       refine seq_do hA rfl rfl rfl (does_assign rfl) ?_
       intro a hA
       refine s_store (us := [.slice none 0 0, .slice none 0 0, .slice none 0 0]) (L' := (.obj g4 (.cells #[.slice none 0 0, .slice none 0 0, .slice none 0 0] 37) :: .obj g2 (.cells #[.slice sF fs.length cF_, .slice sI il.length cI, .slice sO ol.length cO] 37) :: [])) hA hM rfl rfl (m_store rfl rfl rfl (by kernel_rfl) hM 0 rfl rfl rfl) 0 rfl rfl rfl ?_
       intro w20 hM
       refine seq_do hA rfl rfl rfl (does_assign rfl) ?_
       intro a hA
       refine seq_end ?_
       refine hK19 _ _ ?_
       refine wp_ret ?_
       refine hret _ _ ?_
       refine ends (v := .tuple #[.slice none 0 0, .agg #[.slice none 0 0, .slice none 0 0, .slice none 0 0], .int .i64 11]) hA rfl (.cons (res_tmp rfl) (.cons (res_cellS hM Wj_isS_37 rfl 0 rfl (cs := [.slice none 0 0, .slice none 0 0, .slice none 0 0]) rfl rfl) (.cons (res_tmp rfl) .nil))) rfl ?_
       rw [show takeR z fs il ol = ([], 11, [], [], []) from by unfold takeR; rw [if_neg (by rw [hb8]; decide), if_neg (by omega), if_pos (by omega)]]
       exact zeroT hM
     · have hb18' := of_decide_eq_false hb18
       refine seq_do (v := .bool false) hA rfl rfl rfl (does_bin rfl rfl (fun w => (bin_gtr w).trans (by rw [hb18]))) ?_
       intro a hA
       refine seq_end ?_
       refine hK17 _ _ ?_
       refine wp_cond_false (hA.ev rfl) ?_
       refine wp_skip ?_
       refine hK16 _ _ ?_
       refine wp_seq_k (fun K21 hK21 => ?_)
       refine wp_region_lit ?_
       refine seq_do hA rfl rfl rfl (m_loadS hM Wj_isS_37 rfl 1 rfl (cs := [.slice sF fs.length cF_, .slice sI il.length cI, .slice sO ol.length cO]) rfl rfl) ?_
       intro a hA
       refine seq_call hA rfl rfl rfl (enters_func rfl rfl (fun w => by kernel_rfl)) (rcopy_any (cF_ := cF_) (cI := cI) (cO := cO) (hF.below hM.bel) (hI.below hM.bel) (hO.below hM.bel) (Bd.sound hb8)) ?_
       rintro _ w33 ⟨vF22, vI23, vO24, rfl, hOw25⟩
       obtain ⟨gs, D, hM26, hGD, hgr, hnD⟩ := hOw25
       obtain ⟨sF27, cF28, rfl⟩ := owns_sliceE (hM26.has 0 rfl)
       obtain ⟨sI29, cI30, rfl⟩ := owns_sliceE (hM26.has 1 rfl)
       obtain ⟨sO31, cO32, rfl⟩ := owns_sliceE (hM26.has 2 rfl)
       have hgl : gs.length = fs.length := by rw [← hgr, readF_len]
       replace hM : Mg w w33 (.row 88 2 (.slice sF27 fs.length cF28) fs.length ((cellsF gs)) :: .row BY 1 (.slice sI29 il.length cI30) il.length ((Lib.byteCells il)) :: .row BY 1 (.slice sO31 ol.length cO32) ol.length ((Lib.byteCells ol)) :: .obj g4 (.cells #[.slice none 0 0, .slice none 0 0, .slice none 0 0] 37) :: .obj g2 (.cells #[.slice sF fs.length cF_, .slice sI il.length cI, .slice sO ol.length cO] 37) :: D) := ((hM.both hM26 (noBld_cons (by simp) (noBld_cons (by simp) (noBld_quiet quietL_nil))) (noBld_cons (by simp) (noBld_cons (by simp) (noBld_cons (by simp) hnD)))).perm (perm_own _ _ _ _ _))
       refine ⟨_, rfl, ?_⟩
       intro a hA
       refine s_new (vs := [.slice none 0 0, .slice none 0 0, .slice none 0 0]) (t := 37) hA hM rfl rfl rfl (fun g => .pointer (some ⟨g, 0, none⟩)) (does_alloc (z := .agg #[.slice none 0 0, .slice none 0 0, .slice none 0 0]) (by kernel_rfl) rfl) (by decide) ?_
       intro g34 w35 hM a hA
       refine s_store (us := [.slice sF27 fs.length cF28, .slice sI29 il.length cI30, .slice sO31 ol.length cO32]) (L' := (.obj g34 (.cells #[.slice sF27 fs.length cF28, .slice sI29 il.length cI30, .slice sO31 ol.length cO32] 37) :: .row 88 2 (.slice sF27 fs.length cF28) fs.length ((cellsF gs)) :: .row BY 1 (.slice sI29 il.length cI30) il.length ((Lib.byteCells il)) :: .row BY 1 (.slice sO31 ol.length cO32) ol.length ((Lib.byteCells ol)) :: .obj g4 (.cells #[.slice none 0 0, .slice none 0 0, .slice none 0 0] 37) :: .obj g2 (.cells #[.slice sF fs.length cF_, .slice sI il.length cI, .slice sO ol.length cO] 37) :: D)) hA hM rfl rfl (m_store rfl rfl rfl (by kernel_rfl) hM 0 rfl rfl rfl) 0 rfl rfl rfl ?_
       intro w36 hM
       refine seq_end ?_
       refine hK21 _ _ ?_
       refine wp_seq_k (fun K37 hK37 => ?_)
       refine wp_region_lit ?_
       refine s_lit (vs := []) hA hM rfl rfl rfl (does_buildSlice rfl (by kernel_rfl)) rfl rfl (noBld_cons (by simp) (noBld_cons (by simp) (noBld_cons (by simp) (noBld_cons (by simp) (noBld_cons (by simp) (noBld_cons (by simp) hnD)))))) ?_
       intro g38 w39 hM a hA
       refine seq_do (v := .pointer (some ⟨g2, 1, none⟩)) hA rfl rfl rfl (does_field Wj_fld_37_1 rfl rfl) ?_
       intro a hA
       refine seq_do hA rfl rfl rfl (m_load1 hM Wj_is1_24 rfl 6 rfl rfl) ?_
       intro a hA
       refine seq_do hA rfl rfl rfl (does_move rfl) ?_
       intro a hA
       obtain ⟨an, han⟩ : ∃ an : Nat, z = ((an : Nat) : Int) := ⟨z.toNat, by omega⟩
       have hzn : z.toNat = an := by omega
       refine seq_do (v := .slice ((dropA sI cI an)) ((il.drop an).length) ((cI - an))) hA rfl rfl rfl (does_fromq Try.underlying24 (by kernel_rfl) rfl rfl han (by omega) (List.length_drop).symm) ?_
       intro a hA
       refine s_append (k := 0) (q := 0) (m := (il.drop an).length) (xs := []) (news := Lib.byteCells (il.drop an)) (L' := fun v40 => (.row BY 1 (v40) ((0 + (il.drop an).length)) (([] ++ Lib.byteCells (il.drop an))) :: .obj g34 (.cells #[.slice sF27 fs.length cF28, .slice sI29 il.length cI30, .slice sO31 ol.length cO32] 37) :: .row 88 2 (.slice sF27 fs.length cF28) fs.length ((cellsF gs)) :: .row BY 1 (.slice sI29 il.length cI30) il.length ((Lib.byteCells il)) :: .row BY 1 (.slice sO31 ol.length cO32) ol.length ((Lib.byteCells ol)) :: .obj g4 (.cells #[.slice none 0 0, .slice none 0 0, .slice none 0 0] 37) :: .obj g2 (.cells #[.slice sF fs.length cF_, .slice sI il.length cI, .slice sO ol.length cO] 37) :: D)) hA rfl rfl rfl (m_appendA Try.underlying24 (by kernel_rfl) hM 0 rfl rfl (show Rb _ _ ((il.drop an)) from (hI.drop cI an hcI).below hM.bel) rfl (by first | omega | (simp only [List.length_nil]; omega) | (simp only [List.length_take, List.length_drop, List.length_nil]; omega))) (fun _ => rfl) ?_
       intro v40 w41 hM a hA
       replace hM : Mg w w41 (.row BY 1 (v40) ((il.drop an).length) ((Lib.byteCells (il.drop an))) :: .obj g34 (.cells #[.slice sF27 fs.length cF28, .slice sI29 il.length cI30, .slice sO31 ol.length cO32] 37) :: .row 88 2 (.slice sF27 fs.length cF28) fs.length ((cellsF gs)) :: .row BY 1 (.slice sI29 il.length cI30) il.length ((Lib.byteCells il)) :: .row BY 1 (.slice sO31 ol.length cO32) ol.length ((Lib.byteCells ol)) :: .obj g4 (.cells #[.slice none 0 0, .slice none 0 0, .slice none 0 0] 37) :: .obj g2 (.cells #[.slice sF fs.length cF_, .slice sI il.length cI, .slice sO ol.length cO] 37) :: D) := by
         have h9 := hM
         rw [Nat.zero_add, List.nil_append] at h9
         exact h9
       obtain ⟨so42, ca43, rfl⟩ := owns_sliceE (hM.has 0 rfl)
       refine seq_do (v := .pointer (some ⟨g34, 1, none⟩)) hA rfl rfl rfl (does_field Wj_fld_37_1 rfl rfl) ?_
       intro a hA
       refine s_store (us := [.slice sF27 fs.length cF28, .slice so42 ((il.drop an).length) ca43, .slice sO31 ol.length cO32]) (L' := (.row BY 1 (.slice so42 ((il.drop an).length) ca43) ((il.drop an).length) ((Lib.byteCells (il.drop an))) :: .obj g34 (.cells #[.slice sF27 fs.length cF28, .slice so42 ((il.drop an).length) ca43, .slice sO31 ol.length cO32] 37) :: .row 88 2 (.slice sF27 fs.length cF28) fs.length ((cellsF gs)) :: .row BY 1 (.slice sI29 il.length cI30) il.length ((Lib.byteCells il)) :: .row BY 1 (.slice sO31 ol.length cO32) ol.length ((Lib.byteCells ol)) :: .obj g4 (.cells #[.slice none 0 0, .slice none 0 0, .slice none 0 0] 37) :: .obj g2 (.cells #[.slice sF fs.length cF_, .slice sI il.length cI, .slice sO ol.length cO] 37) :: D)) hA hM rfl rfl (m_store rfl rfl rfl (by kernel_rfl) hM 1 rfl rfl rfl) 1 rfl rfl rfl ?_
       intro w44 hM
       refine seq_end ?_
       refine hK37 _ _ ?_
       refine wp_seq_k (fun K45 hK45 => ?_)
       refine wp_draw (S := fun w1 => Mg w w1 (.obj g34 (.cells #[.slice sF27 fs.length cF28, .slice so42 ((il.drop an).length) ca43, .slice sO31 ol.length cO32] 37) :: .obj g2 (.cells #[.slice sF fs.length cF_, .slice sI il.length cI, .slice sO ol.length cO] 37) :: [])) (by kernel_rfl) ?_
       replace hM := hM.drew
       refine any_tk (v := .pointer (some ⟨g2, 1, none⟩)) hA 1 rfl rfl rfl rfl hP (hM.sub (.cons _ (.cons_cons _ (.cons _ (.cons _ (.cons _ (.cons _ (.cons_cons _ (List.nil_sublist _))))))))) (fun w1 hM => does_field Wj_fld_37_1 rfl rfl) ?_
       intro a hA
       refine any_tk hA 2 rfl rfl rfl rfl hP (hM.sub (.cons _ (.cons_cons _ (.cons _ (.cons _ (.cons _ (.cons _ (.cons_cons _ (List.nil_sublist _))))))))) (fun w1 hM => m_load1 hM Wj_is1_24 rfl 1 rfl rfl) ?_
       intro a hA
       refine any_tk hA 3 rfl rfl rfl rfl hP (hM.sub (.cons _ (.cons_cons _ (.cons _ (.cons _ (.cons _ (.cons _ (.cons_cons _ (List.nil_sublist _))))))))) (fun w1 hM => does_move rfl) ?_
       intro a hA
       refine any_tk (v := .slice sI ((il.take an).length) cI) hA 4 rfl rfl rfl rfl hP (hM.sub (.cons _ (.cons_cons _ (.cons _ (.cons _ (.cons _ (.cons _ (.cons_cons _ (List.nil_sublist _))))))))) (fun w1 hM => does_upto (sz := 1) (hi := (il.take an).length) Try.underlying24 (by kernel_rfl) rfl rfl (by rw [List.length_take]; omega) (by rw [List.length_take]; omega)) ?_
       intro a hA
       refine any_tk hA 6 rfl rfl rfl rfl hP (hM.sub (.cons _ (.cons_cons _ (.cons _ (.cons _ (.cons _ (.cons _ (.cons_cons _ (List.nil_sublist _))))))))) (fun w1 hM => m_loadS hM Wj_isS_37 rfl 0 rfl (cs := [.slice sF27 fs.length cF28, .slice so42 ((il.drop an).length) ca43, .slice sO31 ol.length cO32]) rfl rfl) ?_
       intro a hA
       refine any_one (by kernel_rfl) (g_lit (e := BY) (sz := 1) (m := 0) (vs := []) hA hM 0 rfl rfl rfl rfl (does_buildSlice rfl (by kernel_rfl)) rfl rfl (.inr (noBld_cons (by simp) (noBld_cons (by simp) (noBld_cons (by simp) (noBld_cons (by simp) (noBld_cons (by simp) (noBld_cons (by simp) (noBld_cons (by simp) hnD)))))))) ?_)
       intro g46 w47 hM
       refine ⟨(hM.sub (.cons _ (.cons _ (.cons_cons _ (.cons _ (.cons _ (.cons _ (.cons _ (.cons_cons _ (List.nil_sublist _)))))))))), ?_⟩
       intro a hA
       refine any_one (by kernel_rfl) (g_append (e := BY) (sz := 1) (k := 0) (q := 0) (m := (il.take an).length) (xs := []) (news := Lib.byteCells (il.take an)) (L' := fun v48 => (.row BY 1 (v48) ((0 + (il.take an).length)) (([] ++ Lib.byteCells (il.take an))) :: .row BY 1 (.slice so42 ((il.drop an).length) ca43) ((il.drop an).length) ((Lib.byteCells (il.drop an))) :: .obj g34 (.cells #[.slice sF27 fs.length cF28, .slice so42 ((il.drop an).length) ca43, .slice sO31 ol.length cO32] 37) :: .row 88 2 (.slice sF27 fs.length cF28) fs.length ((cellsF gs)) :: .row BY 1 (.slice sI29 il.length cI30) il.length ((Lib.byteCells il)) :: .row BY 1 (.slice sO31 ol.length cO32) ol.length ((Lib.byteCells ol)) :: .obj g4 (.cells #[.slice none 0 0, .slice none 0 0, .slice none 0 0] 37) :: .obj g2 (.cells #[.slice sF fs.length cF_, .slice sI il.length cI, .slice sO ol.length cO] 37) :: D)) hA 5 rfl rfl rfl rfl (m_appendA Try.underlying24 (by kernel_rfl) hM 0 rfl rfl (show Rb _ _ ((il.take an)) from (hI.take an).below hM.bel) rfl (by first | omega | (simp only [List.length_nil]; omega) | (simp only [List.length_take, List.length_drop, List.length_nil]; omega))) (fun _ => rfl) ?_)
       intro v48 w49 hM
       replace hM : Mg w w49 (.row BY 1 (v48) ((il.take an).length) ((Lib.byteCells (il.take an))) :: .row BY 1 (.slice so42 ((il.drop an).length) ca43) ((il.drop an).length) ((Lib.byteCells (il.drop an))) :: .obj g34 (.cells #[.slice sF27 fs.length cF28, .slice so42 ((il.drop an).length) ca43, .slice sO31 ol.length cO32] 37) :: .row 88 2 (.slice sF27 fs.length cF28) fs.length ((cellsF gs)) :: .row BY 1 (.slice sI29 il.length cI30) il.length ((Lib.byteCells il)) :: .row BY 1 (.slice sO31 ol.length cO32) ol.length ((Lib.byteCells ol)) :: .obj g4 (.cells #[.slice none 0 0, .slice none 0 0, .slice none 0 0] 37) :: .obj g2 (.cells #[.slice sF fs.length cF_, .slice sI il.length cI, .slice sO ol.length cO] 37) :: D) := by
         have h9 := hM
         rw [Nat.zero_add, List.nil_append] at h9
         exact h9
       obtain ⟨so50, ca51, rfl⟩ := owns_sliceE (hM.has 0 rfl)
       refine ⟨(hM.sub (.cons _ (.cons _ (.cons_cons _ (.cons _ (.cons _ (.cons _ (.cons _ (.cons_cons _ (List.nil_sublist _)))))))))), ?_⟩
       intro a hA
       refine any_tk hA 7 rfl rfl rfl rfl hP (hM.sub (.cons _ (.cons _ (.cons_cons _ (.cons _ (.cons _ (.cons _ (.cons _ (.cons_cons _ (List.nil_sublist _)))))))))) (fun w1 hM => does_assign rfl) ?_
       intro a hA
       refine any_one (by kernel_rfl) (g_store (us := [.slice sF27 fs.length cF28, .slice so42 ((il.drop an).length) ca43, .slice sO31 ol.length cO32]) (L' := (.row BY 1 (.slice so50 ((il.take an).length) ca51) ((il.take an).length) ((Lib.byteCells (il.take an))) :: .row BY 1 (.slice so42 ((il.drop an).length) ca43) ((il.drop an).length) ((Lib.byteCells (il.drop an))) :: .obj g34 (.cells #[.slice sF27 fs.length cF28, .slice so42 ((il.drop an).length) ca43, .slice sO31 ol.length cO32] 37) :: .row 88 2 (.slice sF27 fs.length cF28) fs.length ((cellsF gs)) :: .row BY 1 (.slice sI29 il.length cI30) il.length ((Lib.byteCells il)) :: .row BY 1 (.slice sO31 ol.length cO32) ol.length ((Lib.byteCells ol)) :: .obj g4 (.cells #[.slice sF27 fs.length cF28, .slice so42 ((il.drop an).length) ca43, .slice sO31 ol.length cO32] 37) :: .obj g2 (.cells #[.slice sF fs.length cF_, .slice sI il.length cI, .slice sO ol.length cO] 37) :: D)) hA hM 8 rfl rfl rfl (m_store rfl rfl rfl (by kernel_rfl) hM 6 rfl rfl rfl) 6 rfl rfl rfl ?_)
       intro w52 hM
       refine ⟨(hM.sub (.cons _ (.cons _ (.cons_cons _ (.cons _ (.cons _ (.cons _ (.cons _ (.cons_cons _ (List.nil_sublist _)))))))))), ?_⟩
       refine any_tk hA 9 rfl rfl rfl rfl hP (hM.sub (.cons _ (.cons _ (.cons_cons _ (.cons _ (.cons _ (.cons _ (.cons _ (.cons_cons _ (List.nil_sublist _)))))))))) (fun w1 hM => does_assign rfl) ?_
       intro a hA
       refine any_end (by kernel_rfl) ?_
       refine hK45 _ _ ?_
       refine wp_ret ?_
       refine hret _ _ ?_
       refine ends (v := .tuple #[.slice so50 ((il.take an).length) ca51, .agg #[.slice sF27 fs.length cF28, .slice so42 ((il.drop an).length) ca43, .slice sO31 ol.length cO32], .int .i64 0]) hA rfl (.cons (res_tmp rfl) (.cons (res_cellS hM Wj_isS_37 rfl 6 rfl (cs := [.slice sF27 fs.length cF28, .slice so42 ((il.drop an).length) ca43, .slice sO31 ol.length cO32]) rfl rfl) (.cons (res_tmp rfl) .nil))) rfl ?_
       rw [show takeR z fs il ol = (il.take an, 0, fs, il.drop an, ol) from by unfold takeR; rw [if_neg (by rw [hb8]; decide), if_neg (by omega), if_neg (by omega), hzn]]
       exact ⟨_, _, _, rfl, hM, (noBld_cons (by simp) (noBld_cons (by simp) (noBld_cons (by simp) (noBld_cons (by simp) (noBld_cons (by simp) (noBld_cons (by simp) (noBld_cons (by simp) (noBld_cons (by simp) hnD)))))))), mem_at (k := 0) rfl, _, _, _, gs, rfl, mem_at (k := 3) rfl, mem_at (k := 1) rfl, mem_at (k := 5) rfl, gs_same hGD (fun c hc => (List.mem_cons_of_mem _ (List.mem_cons_of_mem _ (List.mem_cons_of_mem _ (List.mem_cons_of_mem _ (List.mem_cons_of_mem _ (List.mem_cons_of_mem _ (List.mem_cons_of_mem _ (List.mem_cons_of_mem _ hc))))))))), hgr⟩
 · refine seq_call hA rfl rfl rfl (enters_func rfl rfl (fun w => by kernel_rfl)) (rsound_as (hF.below hM.bel) hn hb8) ?_
   rintro _ w54 ⟨rfl, hb53⟩
   replace hM := hM.call hb53
   refine ⟨_, rfl, ?_⟩
   intro a hA
   refine seq_do (v := .bool true) hA rfl rfl rfl (does_un rfl un_not) ?_
   intro a hA
   refine seq_end ?_
   refine hK7 _ _ ?_
   refine wp_cond_true (hA.ev rfl) ?_
   refine wp_seq_k (fun K55 hK55 => ?_)
   refine wp_region_lit ?_
   refine seq_do (v := .agg #[.slice none 0 0, .slice none 0 0, .slice none 0 0]) hA rfl rfl rfl (does_build rfl (fun w => by kernel_rfl)) ?_
   intro a hA
   refine seq_do hA rfl rfl rfl (does_assign rfl) ?_
   intro a hA
   refine s_store (us := [.slice none 0 0, .slice none 0 0, .slice none 0 0]) (L' := (.obj g4 (.cells #[.slice none 0 0, .slice none 0 0, .slice none 0 0] 37) :: .obj g2 (.cells #[.slice sF fs.length cF_, .slice sI il.length cI, .slice sO ol.length cO] 37) :: [])) hA hM rfl rfl (m_store rfl rfl rfl (by kernel_rfl) hM 0 rfl rfl rfl) 0 rfl rfl rfl ?_
   intro w56 hM
   refine seq_do hA rfl rfl rfl (does_assign rfl) ?_
   intro a hA
   refine seq_end ?_
   refine hK55 _ _ ?_
   refine wp_ret ?_
   refine hret _ _ ?_
   refine ends (v := .tuple #[.slice none 0 0, .agg #[.slice none 0 0, .slice none 0 0, .slice none 0 0], .int .i64 2]) hA rfl (.cons (res_tmp rfl) (.cons (res_cellS hM Wj_isS_37 rfl 0 rfl (cs := [.slice none 0 0, .slice none 0 0, .slice none 0 0]) rfl rfl) (.cons (res_tmp rfl) .nil))) rfl ?_
   rw [show takeR z fs il ol = ([], 2, [], [], []) from by unfold takeR; rw [if_pos hb8]]
   exact zeroT hM
end Go.Proofs.Ytcjgjbaadmohbaa
