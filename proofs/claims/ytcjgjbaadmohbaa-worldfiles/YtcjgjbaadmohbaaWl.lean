/- The walk of the document's Write. -/
import Derived.Test.YtcjgjbaadmohbaaWk
namespace Go.Proofs.Ytcjgjbaadmohbaa
open Go.RowKit
set_option linter.unusedVariables false
set_option linter.unusedSimpArgs false
set_option maxRecDepth 100000
theorem Wl_is1_5 : Is1 Try.prog 5 := ⟨⟨_, Try.underlying5, rfl⟩, by kernel_rfl⟩
theorem Wl_isS_37 : IsS Try.prog 37 3 := ⟨⟨_, Try.underlying37⟩, by kernel_rfl⟩
theorem own_cap {w0 w : World} {L : List Ck} (hM : Mg w0 w L) (k : Nat) {e : TypeId} {sz n cap : Nat} {so : Option Addr} {xs : List Value} (hk : L[k]? = some (.row e sz (.slice so n cap) n xs)) : n ≤ cap := by
  rcases (hM.has k hk).2 with ⟨he, h0⟩ | ⟨g, c, cur, he, _, _, h3, _⟩
  · simp only [Value.slice.injEq] at he; omega
  · cases he; exact h3
theorem rwrite_any {w : World} {sF sI sO : Option Addr} {cF_ cI cO : Nat} {fs : List Fl} {il ol : List UInt8} {nm : ByteArray} {z : Int} {so : Option Addr} {cd : Nat} {d : List UInt8} (hF : Rf w sF fs) (hI : Rb w sI il) (hO : Rb w sO ol) (hn : fs.length ≤ 4398046511104) (hb : Rb w so d) (hbl : d.length ≤ 140737488351232) : Calls Try.prog 20 #[.agg #[.slice sF fs.length cF_, .slice sI il.length cI, .slice sO ol.length cO], .string nm, .int .i64 z, .slice so d.length cd] w fun e w' => RetW w e w' (wrR nm z d fs il ol) := by
 have hM : Mg w w ([]) := Mg.start w
 refine walk_of (l := [(0, .agg #[.slice sF fs.length cF_, .slice sI il.length cI, .slice sO ol.length cO]), (1, .string nm), (2, .int .i64 z), (3, .slice so d.length cd)]) Try.func20 rfl Try.ntmps20 rfl rfl ?_
 intro Q hret hnorm hP a hA
 refine wp_seq_k (fun K1 hK1 => ?_)
 refine wp_region_lit ?_
 refine s_new (vs := [.slice sF fs.length cF_, .slice sI il.length cI, .slice sO ol.length cO]) (t := 37) hA hM rfl rfl rfl (fun g => .pointer (some ⟨g, 0, none⟩)) (does_box rfl rfl) (by decide) ?_
 intro g2 w3 hM a hA
 refine s_new (vs := [.slice none 0 0, .slice none 0 0, .slice none 0 0]) (t := 37) hA hM rfl rfl rfl (fun g => .pointer (some ⟨g, 0, none⟩)) (does_alloc (z := .agg #[.slice none 0 0, .slice none 0 0, .slice none 0 0]) (by kernel_rfl) rfl) (by decide) ?_
 intro g4 w5 hM a hA
 refine seq_do hA rfl rfl rfl (does_assign rfl) ?_
 intro a hA
 refine seq_end ?_
 refine hK1 _ _ ?_
 refine wp_seq_k (fun K6 hK6 => ?_)
 refine wp_region_lit ?_
 refine seq_do hA rfl rfl rfl (m_loadS hM Wl_isS_37 rfl 1 rfl (cs := [.slice sF fs.length cF_, .slice sI il.length cI, .slice sO ol.length cO]) rfl rfl) ?_
 intro a hA
 refine seq_do hA rfl rfl rfl (does_move rfl) ?_
 intro a hA
 rcases Bool.eq_false_or_eq_true (soundS fs il ol) with hb7 | hb7
 · rcases Bool.eq_false_or_eq_true ((lookF nm fs).isNone) with hb8 | hb8
   · obtain ⟨hfx, hl0⟩ := find_none hb8
     refine seq_call hA rfl rfl rfl (enters_func rfl rfl (fun w => by kernel_rfl)) ((show Calls Try.prog 28 #[.agg #[.slice sF fs.length cF_, .slice sI il.length cI, .slice sO ol.length cO], .string nm] _ (fun e w' => ∃ v, e = .returned (.tuple #[v, .int .i64 7]) ∧ Mg _ w' [.row BY 1 v ([] : List UInt8).length (Lib.byteCells [])]) from (by have h8 := rget_any (w := w5) (cF_ := cF_) (cI := cI) (cO := cO) (nm := nm) (hF.below hM.bel) (hI.below hM.bel) (hO.below hM.bel) hn; rw [show getR nm fs il ol = (7, []) from by unfold getR; rw [if_neg (by rw [hb7]; decide), hl0]] at h8; exact h8))) ?_
     rintro _ w13 ⟨v9, rfl, hM10⟩
     obtain ⟨so11, ca12, rfl⟩ := owns_sliceE (hM10.has 0 rfl)
     replace hM : Mg w w13 (.row BY 1 (.slice so11 (([] : List UInt8).length) ca12) (([] : List UInt8).length) ((Lib.byteCells [])) :: .obj g4 (.cells #[.slice none 0 0, .slice none 0 0, .slice none 0 0] 37) :: .obj g2 (.cells #[.slice sF fs.length cF_, .slice sI il.length cI, .slice sO ol.length cO] 37) :: []) := (hM.both hM10 (noBld_cons (by simp) (noBld_cons (by simp) (noBld_quiet quietL_nil))) (noBld_cons (by simp) (noBld_quiet quietL_nil)))
     refine ⟨_, rfl, ?_⟩
     intro a hA
     refine seq_do hA rfl rfl rfl (does_move rfl) ?_
     intro a hA
     refine seq_do (v := .slice so11 (([] : List UInt8).length) ca12) hA rfl rfl rfl (does_extract (vs := [.slice so11 (([] : List UInt8).length) ca12, .int .i64 7]) rfl rfl) ?_
     intro a hA
     refine seq_do (v := .int .i64 7) hA rfl rfl rfl (does_extract (vs := [.slice so11 (([] : List UInt8).length) ca12, .int .i64 7]) rfl rfl) ?_
     intro a hA
     refine seq_do hA rfl rfl rfl (does_assign rfl) ?_
     intro a hA
     refine seq_do hA rfl rfl rfl (does_assign rfl) ?_
     intro a hA
     refine seq_end ?_
     refine hK6 _ _ ?_
     refine wp_seq_k (fun K14 hK14 => ?_)
     refine wp_seq_k (fun K15 hK15 => ?_)
     have hsp := sound_parts hb7
     refine wp_region_lit ?_
     refine seq_do hA rfl rfl rfl (does_move rfl) ?_
     intro a hA
     refine seq_do (v := .bool true) hA rfl rfl rfl (does_bin rfl rfl (fun w => by kernel_rfl)) ?_
     intro a hA
     refine seq_end ?_
     refine hK15 _ _ ?_
     refine wp_cond_true (hA.ev rfl) ?_
     refine wp_seq_k (fun K16 hK16 => ?_)
     refine wp_region_lit ?_
     refine seq_do (v := .agg #[.slice none 0 0, .slice none 0 0, .slice none 0 0]) hA rfl rfl rfl (does_build rfl (fun w => by kernel_rfl)) ?_
     intro a hA
     refine seq_do hA rfl rfl rfl (does_move rfl) ?_
     intro a hA
     refine s_store (us := [.slice none 0 0, .slice none 0 0, .slice none 0 0]) (L' := (.row BY 1 (.slice so11 (([] : List UInt8).length) ca12) (([] : List UInt8).length) ((Lib.byteCells [])) :: .obj g4 (.cells #[.slice none 0 0, .slice none 0 0, .slice none 0 0] 37) :: .obj g2 (.cells #[.slice sF fs.length cF_, .slice sI il.length cI, .slice sO ol.length cO] 37) :: [])) hA hM rfl rfl (m_store rfl rfl rfl (by kernel_rfl) hM 1 rfl rfl rfl) 1 rfl rfl rfl ?_
     intro w17 hM
     refine seq_do hA rfl rfl rfl (does_assign rfl) ?_
     intro a hA
     refine seq_end ?_
     refine hK16 _ _ ?_
     refine wp_ret ?_
     refine hret _ _ ?_
     refine ends (v := .tuple #[.agg #[.slice none 0 0, .slice none 0 0, .slice none 0 0], .int .i64 7]) hA rfl (.cons (res_cellS hM Wl_isS_37 rfl 1 rfl (cs := [.slice none 0 0, .slice none 0 0, .slice none 0 0]) rfl rfl) (.cons (res_tmp rfl) .nil)) rfl ?_
     rw [show wrR nm z d fs il ol = (7, [], [], []) from by unfold wrR; rw [if_neg (by rw [hb7]; decide), hl0]]
     exact ret_zero hM
   · obtain ⟨i0, d0, hfx, hi0, hl0⟩ := find_some hb8
     have hsf9 := sound_file hb7 hi0
     refine seq_call hA rfl rfl rfl (enters_func rfl rfl (fun w => by kernel_rfl)) ((show Calls Try.prog 28 #[.agg #[.slice sF fs.length cF_, .slice sI il.length cI, .slice sO ol.length cO], .string nm] _ (fun e w' => ∃ v, e = .returned (.tuple #[v, .int .i64 0]) ∧ Mg _ w' [.row BY 1 v d0.length (Lib.byteCells d0)]) from (by have h8 := rget_any (w := w5) (cF_ := cF_) (cI := cI) (cO := cO) (nm := nm) (hF.below hM.bel) (hI.below hM.bel) (hO.below hM.bel) hn; rw [show getR nm fs il ol = (0, d0) from by unfold getR; rw [if_neg (by rw [hb7]; decide), hl0]] at h8; exact h8))) ?_
     rintro _ w22 ⟨v18, rfl, hM19⟩
     obtain ⟨so20, ca21, rfl⟩ := owns_sliceE (hM19.has 0 rfl)
     have hca9 := own_cap hM19 0 rfl
     replace hM : Mg w w22 (.row BY 1 (.slice so20 d0.length ca21) d0.length ((Lib.byteCells d0)) :: .obj g4 (.cells #[.slice none 0 0, .slice none 0 0, .slice none 0 0] 37) :: .obj g2 (.cells #[.slice sF fs.length cF_, .slice sI il.length cI, .slice sO ol.length cO] 37) :: []) := (hM.both hM19 (noBld_cons (by simp) (noBld_cons (by simp) (noBld_quiet quietL_nil))) (noBld_cons (by simp) (noBld_quiet quietL_nil)))
     refine ⟨_, rfl, ?_⟩
     intro a hA
     refine seq_do hA rfl rfl rfl (does_move rfl) ?_
     intro a hA
     refine seq_do (v := .slice so20 d0.length ca21) hA rfl rfl rfl (does_extract (vs := [.slice so20 d0.length ca21, .int .i64 0]) rfl rfl) ?_
     intro a hA
     refine seq_do (v := .int .i64 0) hA rfl rfl rfl (does_extract (vs := [.slice so20 d0.length ca21, .int .i64 0]) rfl rfl) ?_
     intro a hA
     refine seq_do hA rfl rfl rfl (does_assign rfl) ?_
     intro a hA
     refine seq_do hA rfl rfl rfl (does_assign rfl) ?_
     intro a hA
     refine seq_end ?_
     refine hK6 _ _ ?_
     refine wp_seq_k (fun K23 hK23 => ?_)
     refine wp_seq_k (fun K24 hK24 => ?_)
     have hsp := sound_parts hb7
     refine wp_region_lit ?_
     refine seq_do hA rfl rfl rfl (does_move rfl) ?_
     intro a hA
     refine seq_do (v := .bool false) hA rfl rfl rfl (does_bin rfl rfl (fun w => by kernel_rfl)) ?_
     intro a hA
     refine seq_end ?_
     refine hK24 _ _ ?_
     refine wp_cond_false (hA.ev rfl) ?_
     refine wp_skip ?_
     refine hK23 _ _ ?_
     refine wp_seq_k (fun K25 hK25 => ?_)
     refine wp_seq_k (fun K26 hK26 => ?_)
     refine wp_region_lit ?_
     refine seq_do hA rfl rfl rfl (does_move rfl) ?_
     intro a hA
     rcases Bool.eq_false_or_eq_true (decide (z < 0)) with hb27 | hb27
     · have hb27' := of_decide_eq_true hb27
       refine seq_do (v := .bool true) hA rfl rfl rfl (does_bin rfl rfl (fun w => (bin_lss w).trans (by rw [hb27]))) ?_
       intro a hA
       refine seq_do hA rfl rfl rfl (does_move rfl) ?_
       intro a hA
       refine seq_skip hA rfl rfl rfl ?_
       intro a hA
       refine seq_skip hA rfl rfl rfl ?_
       intro a hA
       refine seq_skip hA rfl rfl rfl ?_
       intro a hA
       refine seq_skip hA rfl rfl rfl ?_
       intro a hA
       refine seq_do (v := .bool true) hA rfl rfl rfl (does_pick rfl rfl rfl rfl) ?_
       intro a hA
       refine seq_end ?_
       refine hK26 _ _ ?_
       refine wp_cond_true (hA.ev rfl) ?_
       refine wp_seq_k (fun K28 hK28 => ?_)
       refine wp_region_lit ?_
       refine seq_do (v := .agg #[.slice none 0 0, .slice none 0 0, .slice none 0 0]) hA rfl rfl rfl (does_build rfl (fun w => by kernel_rfl)) ?_
       intro a hA
       refine s_store (us := [.slice none 0 0, .slice none 0 0, .slice none 0 0]) (L' := (.row BY 1 (.slice so20 d0.length ca21) d0.length ((Lib.byteCells d0)) :: .obj g4 (.cells #[.slice none 0 0, .slice none 0 0, .slice none 0 0] 37) :: .obj g2 (.cells #[.slice sF fs.length cF_, .slice sI il.length cI, .slice sO ol.length cO] 37) :: [])) hA hM rfl rfl (m_store rfl rfl rfl (by kernel_rfl) hM 1 rfl rfl rfl) 1 rfl rfl rfl ?_
       intro w29 hM
       refine seq_do hA rfl rfl rfl (does_assign rfl) ?_
       intro a hA
       refine seq_end ?_
       refine hK28 _ _ ?_
       refine wp_ret ?_
       refine hret _ _ ?_
       refine ends (v := .tuple #[.agg #[.slice none 0 0, .slice none 0 0, .slice none 0 0], .int .i64 1]) hA rfl (.cons (res_cellS hM Wl_isS_37 rfl 1 rfl (cs := [.slice none 0 0, .slice none 0 0, .slice none 0 0]) rfl rfl) (.cons (res_tmp rfl) .nil)) rfl ?_
       rw [show wrR nm z d fs il ol = (1, [], [], []) from by unfold wrR; rw [if_neg (by rw [hb7]; decide), hl0]; simp only; rw [if_pos (by omega)]]
       exact ret_zero hM
     · have hb27' := of_decide_eq_false hb27
       refine seq_do (v := .bool false) hA rfl rfl rfl (does_bin rfl rfl (fun w => (bin_lss w).trans (by rw [hb27]))) ?_
       intro a hA
       refine seq_do hA rfl rfl rfl (does_move rfl) ?_
       intro a hA
       refine seq_do hA rfl rfl rfl (does_move rfl) ?_
       intro a hA
       refine seq_do hA rfl rfl rfl (does_move rfl) ?_
       intro a hA
       refine seq_do (v := .int .i64 (((d0.length : Nat) : Int))) hA rfl rfl rfl (does_len Try.underlying24 rfl) ?_
       intro a hA
       rcases Bool.eq_false_or_eq_true (decide (((d0.length : Nat) : Int) < z)) with hb30 | hb30
       · have hb30' := of_decide_eq_true hb30
         refine seq_do (v := .bool true) hA rfl rfl rfl (does_bin rfl rfl (fun w => (bin_gtr w).trans (by rw [hb30]))) ?_
         intro a hA
         refine seq_do (v := .bool true) hA rfl rfl rfl (does_pick rfl rfl rfl rfl) ?_
         intro a hA
         refine seq_end ?_
         refine hK26 _ _ ?_
         refine wp_cond_true (hA.ev rfl) ?_
         refine wp_seq_k (fun K31 hK31 => ?_)
         refine wp_region_lit ?_
         refine seq_do (v := .agg #[.slice none 0 0, .slice none 0 0, .slice none 0 0]) hA rfl rfl rfl (does_build rfl (fun w => by kernel_rfl)) ?_
         intro a hA
         refine s_store (us := [.slice none 0 0, .slice none 0 0, .slice none 0 0]) (L' := (.row BY 1 (.slice so20 d0.length ca21) d0.length ((Lib.byteCells d0)) :: .obj g4 (.cells #[.slice none 0 0, .slice none 0 0, .slice none 0 0] 37) :: .obj g2 (.cells #[.slice sF fs.length cF_, .slice sI il.length cI, .slice sO ol.length cO] 37) :: [])) hA hM rfl rfl (m_store rfl rfl rfl (by kernel_rfl) hM 1 rfl rfl rfl) 1 rfl rfl rfl ?_
         intro w32 hM
         refine seq_do hA rfl rfl rfl (does_assign rfl) ?_
         intro a hA
         refine seq_end ?_
         refine hK31 _ _ ?_
         refine wp_ret ?_
         refine hret _ _ ?_
         refine ends (v := .tuple #[.agg #[.slice none 0 0, .slice none 0 0, .slice none 0 0], .int .i64 1]) hA rfl (.cons (res_cellS hM Wl_isS_37 rfl 1 rfl (cs := [.slice none 0 0, .slice none 0 0, .slice none 0 0]) rfl rfl) (.cons (res_tmp rfl) .nil)) rfl ?_
         rw [show wrR nm z d fs il ol = (1, [], [], []) from by unfold wrR; rw [if_neg (by rw [hb7]; decide), hl0]; simp only; rw [if_pos (by omega)]]
         exact ret_zero hM
       · have hb30' := of_decide_eq_false hb30
         refine seq_do (v := .bool false) hA rfl rfl rfl (does_bin rfl rfl (fun w => (bin_gtr w).trans (by rw [hb30]))) ?_
         intro a hA
         refine seq_do (v := .bool false) hA rfl rfl rfl (does_pick rfl rfl rfl rfl) ?_
         intro a hA
         refine seq_end ?_
         refine hK26 _ _ ?_
         refine wp_cond_false (hA.ev rfl) ?_
         refine wp_skip ?_
         refine hK25 _ _ ?_
         refine wp_seq_k (fun K33 hK33 => ?_)
         refine wp_seq_k (fun K34 hK34 => ?_)
         refine wp_region_lit ?_
         refine seq_do hA rfl rfl rfl (does_move rfl) ?_
         intro a hA
         refine seq_do hA rfl rfl rfl (does_move rfl) ?_
         intro a hA
         refine seq_do (v := .int .i64 (((d.length : Nat) : Int))) hA rfl rfl rfl (does_len Try.underlying24 rfl) ?_
         intro a hA
         obtain ⟨an, han⟩ : ∃ an : Nat, z = ((an : Nat) : Int) := ⟨z.toNat, by omega⟩
         have hzn : z.toNat = an := by omega
         refine seq_do (v := .int .i64 (((an + d.length : Nat) : Int))) hA rfl rfl rfl (does_bin rfl rfl (ar_add ((in_i64 (by omega) (by omega)).trans (by omega)))) ?_
         intro a hA
         rcases Bool.eq_false_or_eq_true (decide (65536 < ((an + d.length : Nat) : Int))) with hb35 | hb35
         · have hb35' := of_decide_eq_true hb35
           refine seq_do (v := .bool true) hA rfl rfl rfl (does_bin rfl rfl (fun w => (bin_gtr w).trans (by rw [hb35]))) ?_
           intro a hA
           refine seq_end ?_
           refine hK34 _ _ ?_
           refine wp_cond_true (hA.ev rfl) ?_
           refine wp_seq_k (fun K36 hK36 => ?_)
           refine wp_region_lit ?_
           refine seq_do (v := .agg #[.slice none 0 0, .slice none 0 0, .slice none 0 0]) hA rfl rfl rfl (does_build rfl (fun w => by kernel_rfl)) ?_
           intro a hA
           refine s_store (us := [.slice none 0 0, .slice none 0 0, .slice none 0 0]) (L' := (.row BY 1 (.slice so20 d0.length ca21) d0.length ((Lib.byteCells d0)) :: .obj g4 (.cells #[.slice none 0 0, .slice none 0 0, .slice none 0 0] 37) :: .obj g2 (.cells #[.slice sF fs.length cF_, .slice sI il.length cI, .slice sO ol.length cO] 37) :: [])) hA hM rfl rfl (m_store rfl rfl rfl (by kernel_rfl) hM 1 rfl rfl rfl) 1 rfl rfl rfl ?_
           intro w37 hM
           refine seq_do hA rfl rfl rfl (does_assign rfl) ?_
           intro a hA
           refine seq_end ?_
           refine hK36 _ _ ?_
           refine wp_ret ?_
           refine hret _ _ ?_
           refine ends (v := .tuple #[.agg #[.slice none 0 0, .slice none 0 0, .slice none 0 0], .int .i64 4]) hA rfl (.cons (res_cellS hM Wl_isS_37 rfl 1 rfl (cs := [.slice none 0 0, .slice none 0 0, .slice none 0 0]) rfl rfl) (.cons (res_tmp rfl) .nil)) rfl ?_
           rw [show wrR nm z d fs il ol = (4, [], [], []) from by unfold wrR; rw [if_neg (by rw [hb7]; decide), hl0]; simp only; rw [if_neg (by omega), if_pos (by omega)]]
           exact ret_zero hM
         · have hb35' := of_decide_eq_false hb35
           refine seq_do (v := .bool false) hA rfl rfl rfl (does_bin rfl rfl (fun w => (bin_gtr w).trans (by rw [hb35]))) ?_
           intro a hA
           refine seq_end ?_
           refine hK34 _ _ ?_
           refine wp_cond_false (hA.ev rfl) ?_
           refine wp_skip ?_
           refine hK33 _ _ ?_
           refine wp_seq_k (fun K38 hK38 => ?_)
           refine wp_region_lit ?_
           refine s_lit (vs := []) hA hM rfl rfl rfl (does_buildSlice rfl (by kernel_rfl)) rfl rfl (noBld_cons (by simp) (noBld_cons (by simp) (noBld_cons (by simp) (noBld_quiet quietL_nil)))) ?_
           intro g39 w40 hM a hA
           refine seq_do hA rfl rfl rfl (does_move rfl) ?_
           intro a hA
           refine seq_do hA rfl rfl rfl (does_move rfl) ?_
           intro a hA
           refine seq_do (v := .slice so20 ((d0.take an).length) ca21) hA rfl rfl rfl (does_upto (sz := 1) (hi := (d0.take an).length) Try.underlying24 (by kernel_rfl) rfl rfl (by rw [List.length_take]; omega) (by rw [List.length_take]; omega)) ?_
           intro a hA
           refine s_append (k := 0) (q := 0) (m := (d0.take an).length) (xs := []) (news := Lib.byteCells (d0.take an)) (L' := fun v41 => (.row BY 1 (v41) ((0 + (d0.take an).length)) (([] ++ Lib.byteCells (d0.take an))) :: .row BY 1 (.slice so20 d0.length ca21) d0.length ((Lib.byteCells d0)) :: .obj g4 (.cells #[.slice none 0 0, .slice none 0 0, .slice none 0 0] 37) :: .obj g2 (.cells #[.slice sF fs.length cF_, .slice sI il.length cI, .slice sO ol.length cO] 37) :: [])) hA rfl rfl rfl (m_appendA Try.underlying24 (by kernel_rfl) hM 0 rfl rfl (show Rb _ _ ((d0.take an)) from (rb_row hM 1 rfl).1.take an) rfl (by first | omega | (simp only [List.length_nil]; omega) | (simp only [List.length_take, List.length_drop, List.length_nil]; omega))) (fun _ => rfl) ?_
           intro v41 w42 hM a hA
           replace hM : Mg w w42 (.row BY 1 (v41) ((d0.take an).length) ((Lib.byteCells (d0.take an))) :: .row BY 1 (.slice so20 d0.length ca21) d0.length ((Lib.byteCells d0)) :: .obj g4 (.cells #[.slice none 0 0, .slice none 0 0, .slice none 0 0] 37) :: .obj g2 (.cells #[.slice sF fs.length cF_, .slice sI il.length cI, .slice sO ol.length cO] 37) :: []) := by
             have h9 := hM
             rw [Nat.zero_add, List.nil_append] at h9
             exact h9
           obtain ⟨so43, ca44, rfl⟩ := owns_sliceE (hM.has 0 rfl)
           refine seq_do hA rfl rfl rfl (does_assign rfl) ?_
           intro a hA
           refine seq_end ?_
           refine hK38 _ _ ?_
           refine wp_seq_k (fun K45 hK45 => ?_)
           refine wp_region_lit ?_
           refine seq_do hA rfl rfl rfl (does_move rfl) ?_
           intro a hA
           refine seq_do hA rfl rfl rfl (does_move rfl) ?_
           intro a hA
           refine s_append (k := 0) (q := (d0.take an).length) (m := d.length) (xs := (Lib.byteCells (d0.take an))) (news := Lib.byteCells d) (L' := fun v46 => (.row BY 1 (v46) (((d0.take an).length + d.length)) (((Lib.byteCells (d0.take an)) ++ Lib.byteCells d)) :: .row BY 1 (.slice so20 d0.length ca21) d0.length ((Lib.byteCells d0)) :: .obj g4 (.cells #[.slice none 0 0, .slice none 0 0, .slice none 0 0] 37) :: .obj g2 (.cells #[.slice sF fs.length cF_, .slice sI il.length cI, .slice sO ol.length cO] 37) :: [])) hA rfl rfl rfl (m_appendA Try.underlying24 (by kernel_rfl) hM 0 rfl rfl (show Rb _ _ d from hb.below hM.bel) rfl (by first | omega | (simp only [List.length_nil]; omega) | (simp only [List.length_take, List.length_drop, List.length_nil]; omega))) (fun _ => rfl) ?_
           intro v46 w47 hM a hA
           replace hM : Mg w w47 (.row BY 1 (v46) (((d0.take an) ++ d).length) ((Lib.byteCells ((d0.take an) ++ d))) :: .row BY 1 (.slice so20 d0.length ca21) d0.length ((Lib.byteCells d0)) :: .obj g4 (.cells #[.slice none 0 0, .slice none 0 0, .slice none 0 0] 37) :: .obj g2 (.cells #[.slice sF fs.length cF_, .slice sI il.length cI, .slice sO ol.length cO] 37) :: []) := by
             have h9 := hM
             rw [← List.length_append, ← Lib.byteCells_append] at h9
             exact h9
           obtain ⟨so48, ca49, rfl⟩ := owns_sliceE (hM.has 0 rfl)
           refine seq_do hA rfl rfl rfl (does_assign rfl) ?_
           intro a hA
           refine seq_end ?_
           refine hK45 _ _ ?_
           refine wp_seq_k (fun K50 hK50 => ?_)
           refine wp_seq_k (fun K51 hK51 => ?_)
           refine wp_region_lit ?_
           refine seq_do hA rfl rfl rfl (does_move rfl) ?_
           intro a hA
           refine seq_do (v := .int .i64 (((((d0.take an) ++ d).length : Nat) : Int))) hA rfl rfl rfl (does_len Try.underlying24 rfl) ?_
           intro a hA
           refine seq_do hA rfl rfl rfl (does_assign rfl) ?_
           intro a hA
           refine seq_end ?_
           refine hK51 _ _ ?_
           refine wp_block ?_
           refine wp_loop_n (fun m_ a w1 => ∃ (i : Nat) (acc : List UInt8) (va : Value), m_ = d0.length - i ∧ (acc ++ d0.drop i = wrD an d d0 ∧ an + d.length ≤ i ∧ acc.length = i ∧ i ≤ 65536 + d0.length) ∧ Sl a 68 [(0, .agg #[.slice sF fs.length cF_, .slice sI il.length cI, .slice sO ol.length cO]), (1, .string nm), (2, .int .i64 z), (3, .slice so d.length cd), (4, .pointer (some ⟨g2, 0, none⟩)), (8, .pointer (some ⟨g4, 0, none⟩)), (9, .int .i64 0), (10, .slice so20 d0.length ca21), (11, .int .i64 0), (12, va), (13, .int .i64 (((i : Nat) : Int))), (14, .tuple #[.slice so20 d0.length ca21, .int .i64 0]), (15, .agg #[.slice sF fs.length cF_, .slice sI il.length cI, .slice sO ol.length cO]), (16, .string nm), (17, .tuple #[.slice so20 d0.length ca21, .int .i64 0]), (18, .slice so20 d0.length ca21), (19, .int .i64 0), (20, .int .i64 0), (21, .bool false), (24, .int .i64 z), (25, .bool false), (26, .bool false), (27, .int .i64 z), (28, .slice so20 d0.length ca21), (29, .int .i64 (((d0.length : Nat) : Int))), (30, .bool false), (31, .bool false), (33, .int .i64 z), (34, .slice so d.length cd), (35, .int .i64 (((d.length : Nat) : Int))), (36, .int .i64 (((an + d.length : Nat) : Int))), (37, .bool false), (39, .slice (some ⟨g39, 0, none⟩) 0 0), (40, .slice so20 d0.length ca21), (41, .int .i64 z), (42, .slice so20 ((d0.take an).length) ca21), (43, .slice so43 ((d0.take an).length) ca44), (44, .slice so43 ((d0.take an).length) ca44), (45, .slice so d.length cd), (46, .slice so48 (((d0.take an) ++ d).length) ca49), (47, .slice so48 (((d0.take an) ++ d).length) ca49), (48, .int .i64 (((((d0.take an) ++ d).length : Nat) : Int)))] ∧ Mg w w1 (.row BY 1 (va) acc.length ((Lib.byteCells acc)) :: .row BY 1 (.slice so20 d0.length ca21) d0.length ((Lib.byteCells d0)) :: .obj g4 (.cells #[.slice none 0 0, .slice none 0 0, .slice none 0 0] 37) :: .obj g2 (.cells #[.slice sF fs.length cF_, .slice sI il.length cI, .slice sO ol.length cO] 37) :: [])) _ ⟨((d0.take an) ++ d).length, d0.take an ++ d, .slice so48 (((d0.take an) ++ d).length) ca49, rfl, ⟨by unfold wrD; rw [show (d0.take an ++ d).length = an + d.length from by rw [List.length_append, List.length_take]; omega], by rw [List.length_append, List.length_take]; omega, rfl, by rw [List.length_append, List.length_take]; omega⟩, hA.keep _ ⟨rfl, rfl, rfl, rfl, rfl, rfl, rfl, rfl, rfl, rfl, rfl, rfl, rfl, rfl, rfl, rfl, rfl, rfl, rfl, rfl, rfl, rfl, rfl, rfl, rfl, rfl, rfl, rfl, rfl, rfl, rfl, rfl, rfl, rfl, rfl, rfl, rfl, rfl, rfl, rfl, rfl, rfl, trivial⟩, hM⟩ ?_
           clear hM hA
           rintro m_ a w52 ⟨i, acc, va, rfl, hinv54, hA, hM⟩ K53 hK53
           obtain ⟨hrun, hi8, hal, hi9⟩ := hinv54
           refine wp_seq_k (fun K55 hK55 => ?_)
           refine wp_seq_k (fun K56 hK56 => ?_)
           refine wp_region_lit ?_
           refine seq_do hA rfl rfl rfl (does_move rfl) ?_
           intro a hA
           refine seq_do hA rfl rfl rfl (does_move rfl) ?_
           intro a hA
           refine seq_do (v := .int .i64 (((d0.length : Nat) : Int))) hA rfl rfl rfl (does_len Try.underlying24 rfl) ?_
           intro a hA
           rcases Bool.eq_false_or_eq_true (decide (((i : Nat) : Int) < ((d0.length : Nat) : Int))) with hb57 | hb57
           · have hb57' := of_decide_eq_true hb57
             refine seq_do (v := .bool true) hA rfl rfl rfl (does_bin rfl rfl (fun w => (bin_lss w).trans (by rw [hb57]))) ?_
             intro a hA
             refine seq_end ?_
             refine hK56 _ _ ?_
             refine wp_cond_true (hA.ev rfl) ?_
             refine wp_skip ?_
             refine hK55 _ _ ?_
             refine wp_seq_k (fun K58 hK58 => ?_)
             refine wp_block ?_
             refine wp_region_lit ?_
             refine seq_do hA rfl rfl rfl (does_move rfl) ?_
             intro a hA
             refine seq_do hA rfl rfl rfl (does_move rfl) ?_
             intro a hA
             refine seq_do hA rfl rfl rfl (does_move rfl) ?_
             intro a hA
             obtain ⟨go, hgo⟩ := row_addr hM 1 rfl (show 0 < d0.length by omega)
             refine seq_do (v := .pointer (some ⟨go, i * 1, none⟩)) hA rfl rfl rfl (does_indexX Try.underlying24 (by kernel_rfl) rfl rfl rfl hgo (show i < d0.length by omega)) ?_
             intro a hA
             refine seq_do (v := .int .u8 ((((d0.getD i 0).toNat : Nat) : Int))) hA rfl rfl rfl (m_loadX hM 1 rfl hgo (byte_cell (by omega)) Wl_is1_5 rfl) ?_
             intro a hA
             refine s_lit (vs := [.int .u8 ((((d0.getD i 0).toNat : Nat) : Int))]) hA hM rfl rfl rfl (does_buildSlice rfl (by kernel_rfl)) rfl rfl (noBld_cons (by simp) (noBld_cons (by simp) (noBld_cons (by simp) (noBld_cons (by simp) (noBld_quiet quietL_nil))))) ?_
             intro g59 w60 hM a hA
             refine s_append (k := 1) (q := acc.length) (m := 1) (xs := (Lib.byteCells acc)) (news := [.int .u8 ((((d0.getD i 0).toNat : Nat) : Int))]) (L' := fun v61 => (.row BY 1 (.slice (some ⟨g59, 0, none⟩) 1 1) 1 ([.int .u8 ((((d0.getD i 0).toNat : Nat) : Int))]) :: .row BY 1 (v61) (acc.length + 1) ((Lib.byteCells acc) ++ [.int .u8 ((((d0.getD i 0).toNat : Nat) : Int))]) :: .row BY 1 (.slice so20 d0.length ca21) d0.length ((Lib.byteCells d0)) :: .obj g4 (.cells #[.slice none 0 0, .slice none 0 0, .slice none 0 0] 37) :: .obj g2 (.cells #[.slice sF fs.length cF_, .slice sI il.length cI, .slice sO ol.length cO] 37) :: [])) hA rfl rfl rfl (m_append Try.underlying24 (by kernel_rfl) hM 1 rfl rfl 0 rfl rfl rfl rfl (by omega)) (fun _ => rfl) ?_
             intro v61 w62 hM a hA
             refine seq_do hA rfl rfl rfl (does_assign rfl) ?_
             intro a hA
             refine seq_end ?_
             refine hK58 _ _ ?_
             refine wp_region_lit ?_
             refine seq_do hA rfl rfl rfl (does_move rfl) ?_
             intro a hA
             refine seq_do (v := .int .i64 (((i + 1 : Nat) : Int))) hA rfl rfl rfl (does_bin rfl rfl (ar_add ((in_i64 (by omega) (by omega)).trans (by omega)))) ?_
             intro a hA
             refine seq_do hA rfl rfl rfl (does_assign rfl) ?_
             intro a hA
             refine seq_end ?_
             replace hM : Mg w w62 (.row BY 1 (v61) ((acc ++ [d0.getD i 0]).length) ((Lib.byteCells (acc ++ [d0.getD i 0]))) :: .row BY 1 (.slice so20 d0.length ca21) d0.length ((Lib.byteCells d0)) :: .obj g4 (.cells #[.slice none 0 0, .slice none 0 0, .slice none 0 0] 37) :: .obj g2 (.cells #[.slice sF fs.length cF_, .slice sI il.length cI, .slice sO ol.length cO] 37) :: []) := by
               have h9 := hM.sub (.cons _ (.cons_cons _ (.cons_cons _ (.cons_cons _ (.cons_cons _ (.refl _))))))
               rw [Lib.byteCells_append, List.length_append]
               exact h9
             refine hK53 _ _ _ (by omega) ⟨i + 1, acc ++ [d0.getD i 0], v61, rfl, ⟨by rw [← hrun, snoc_drop (acc := acc) (l := d0) (i := i) (by omega)], by omega, by rw [List.length_append, hal]; rfl, by omega⟩, hA.keep _ ⟨rfl, rfl, rfl, rfl, rfl, rfl, rfl, rfl, rfl, rfl, rfl, rfl, rfl, rfl, rfl, rfl, rfl, rfl, rfl, rfl, rfl, rfl, rfl, rfl, rfl, rfl, rfl, rfl, rfl, rfl, rfl, rfl, rfl, rfl, rfl, rfl, rfl, rfl, rfl, rfl, rfl, rfl, trivial⟩, hM⟩
           · have hb57' := of_decide_eq_false hb57
             refine seq_do (v := .bool false) hA rfl rfl rfl (does_bin rfl rfl (fun w => (bin_lss w).trans (by rw [hb57]))) ?_
             intro a hA
             refine seq_end ?_
             refine hK56 _ _ ?_
             refine wp_cond_false (hA.ev rfl) ?_
             refine wp_exit ?_
             refine hK50 _ _ ?_
             refine wp_seq_k (fun K63 hK63 => ?_)
             refine wp_region_lit ?_
             refine seq_do hA rfl rfl rfl (m_loadS hM Wl_isS_37 rfl 3 rfl (cs := [.slice sF fs.length cF_, .slice sI il.length cI, .slice sO ol.length cO]) rfl rfl) ?_
             intro a hA
             refine seq_do hA rfl rfl rfl (does_move rfl) ?_
             intro a hA
             refine seq_do hA rfl rfl rfl (does_move rfl) ?_
             intro a hA
             rw [List.drop_eq_nil_of_le (by omega), List.append_nil] at hrun
             subst hrun
             obtain ⟨so64, ca65, rfl⟩ := owns_sliceE (hM.has 0 rfl)
             refine seq_call hA rfl rfl rfl (enters_func rfl rfl (fun w => by kernel_rfl)) ((show Calls Try.prog 18 _ _ (fun e w' => RetW _ e w' (wrR nm z d fs il ol)) from (wr_put (d := d) hb7 hi0 hl0 han (by omega) (by omega)) ▸ rput_any (cF_ := cF_) (cI := cI) (cO := cO) (nm := nm) (hF.below hM.bel) (hI.below hM.bel) (hO.below hM.bel) hn (rb_row hM 0 rfl).1)) ?_
             rintro _ w74 ⟨V66, L9, rfl, hM67, hnL, hR9⟩
             obtain ⟨sF68, cF69, sI70, cI71, sO72, cO73, rfl, _⟩ := RwD.open_ hM67 hR9
             replace hM : Mg w w74 (.row BY 1 (.slice so64 ((wrD an d d0).length) ca65) ((wrD an d d0).length) ((Lib.byteCells (wrD an d d0))) :: .row BY 1 (.slice so20 d0.length ca21) d0.length ((Lib.byteCells d0)) :: .obj g4 (.cells #[.slice none 0 0, .slice none 0 0, .slice none 0 0] 37) :: .obj g2 (.cells #[.slice sF fs.length cF_, .slice sI il.length cI, .slice sO ol.length cO] 37) :: L9) := ((hM.both hM67 (noBld_cons (by simp) (noBld_cons (by simp) (noBld_cons (by simp) (noBld_cons (by simp) (noBld_quiet quietL_nil))))) hnL).perm List.perm_append_comm)
             refine ⟨_, rfl, ?_⟩
             intro a hA
             refine seq_do (v := .agg #[.slice sF68 ((wrR nm z d fs il ol).2.1.length) cF69, .slice sI70 ((wrR nm z d fs il ol).2.2.1.length) cI71, .slice sO72 ((wrR nm z d fs il ol).2.2.2.length) cO73]) hA rfl rfl rfl (does_extract (vs := [.agg #[.slice sF68 ((wrR nm z d fs il ol).2.1.length) cF69, .slice sI70 ((wrR nm z d fs il ol).2.2.1.length) cI71, .slice sO72 ((wrR nm z d fs il ol).2.2.2.length) cO73], .int .i64 ((wrR nm z d fs il ol).1)]) rfl rfl) ?_
             intro a hA
             refine seq_do (v := .int .i64 ((wrR nm z d fs il ol).1)) hA rfl rfl rfl (does_extract (vs := [.agg #[.slice sF68 ((wrR nm z d fs il ol).2.1.length) cF69, .slice sI70 ((wrR nm z d fs il ol).2.2.1.length) cI71, .slice sO72 ((wrR nm z d fs il ol).2.2.2.length) cO73], .int .i64 ((wrR nm z d fs il ol).1)]) rfl rfl) ?_
             intro a hA
             refine s_store (us := [.slice sF68 ((wrR nm z d fs il ol).2.1.length) cF69, .slice sI70 ((wrR nm z d fs il ol).2.2.1.length) cI71, .slice sO72 ((wrR nm z d fs il ol).2.2.2.length) cO73]) (L' := (.row BY 1 (.slice so64 ((wrD an d d0).length) ca65) ((wrD an d d0).length) ((Lib.byteCells (wrD an d d0))) :: .row BY 1 (.slice so20 d0.length ca21) d0.length ((Lib.byteCells d0)) :: .obj g4 (.cells #[.slice sF68 ((wrR nm z d fs il ol).2.1.length) cF69, .slice sI70 ((wrR nm z d fs il ol).2.2.1.length) cI71, .slice sO72 ((wrR nm z d fs il ol).2.2.2.length) cO73] 37) :: .obj g2 (.cells #[.slice sF fs.length cF_, .slice sI il.length cI, .slice sO ol.length cO] 37) :: L9)) hA hM rfl rfl (m_store rfl rfl rfl (by kernel_rfl) hM 2 rfl rfl rfl) 2 rfl rfl rfl ?_
             intro w75 hM
             refine seq_do hA rfl rfl rfl (does_assign rfl) ?_
             intro a hA
             refine seq_end ?_
             refine hK63 _ _ ?_
             refine wp_ret ?_
             refine hret _ _ ?_
             refine ends (v := .tuple #[.agg #[.slice sF68 ((wrR nm z d fs il ol).2.1.length) cF69, .slice sI70 ((wrR nm z d fs il ol).2.2.1.length) cI71, .slice sO72 ((wrR nm z d fs il ol).2.2.2.length) cO73], .int .i64 ((wrR nm z d fs il ol).1)]) hA rfl (.cons (res_cellS hM Wl_isS_37 rfl 2 rfl (cs := [.slice sF68 ((wrR nm z d fs il ol).2.1.length) cF69, .slice sI70 ((wrR nm z d fs il ol).2.2.1.length) cI71, .slice sO72 ((wrR nm z d fs il ol).2.2.2.length) cO73]) rfl rfl) (.cons (res_tmp rfl) .nil)) rfl ?_
             exact ⟨_, _, rfl, hM, (noBld_cons (by simp) (noBld_cons (by simp) (noBld_cons (by simp) (noBld_cons (by simp) hnL)))), hR9.mono (fun c hc => (List.mem_cons_of_mem _ (List.mem_cons_of_mem _ (List.mem_cons_of_mem _ (List.mem_cons_of_mem _ hc)))))⟩
 · refine seq_call hA rfl rfl rfl (enters_func rfl rfl (fun w => by kernel_rfl)) ((show Calls Try.prog 28 #[.agg #[.slice sF fs.length cF_, .slice sI il.length cI, .slice sO ol.length cO], .string nm] _ (fun e w' => ∃ v, e = .returned (.tuple #[v, .int .i64 2]) ∧ Mg _ w' [.row BY 1 v ([] : List UInt8).length (Lib.byteCells [])]) from (by have h8 := rget_any (w := w5) (cF_ := cF_) (cI := cI) (cO := cO) (nm := nm) (hF.below hM.bel) (hI.below hM.bel) (hO.below hM.bel) hn; rw [show getR nm fs il ol = (2, []) from by unfold getR; rw [if_pos hb7]] at h8; exact h8))) ?_
   rintro _ w80 ⟨v76, rfl, hM77⟩
   obtain ⟨so78, ca79, rfl⟩ := owns_sliceE (hM77.has 0 rfl)
   replace hM : Mg w w80 (.row BY 1 (.slice so78 (([] : List UInt8).length) ca79) (([] : List UInt8).length) ((Lib.byteCells [])) :: .obj g4 (.cells #[.slice none 0 0, .slice none 0 0, .slice none 0 0] 37) :: .obj g2 (.cells #[.slice sF fs.length cF_, .slice sI il.length cI, .slice sO ol.length cO] 37) :: []) := (hM.both hM77 (noBld_cons (by simp) (noBld_cons (by simp) (noBld_quiet quietL_nil))) (noBld_cons (by simp) (noBld_quiet quietL_nil)))
   refine ⟨_, rfl, ?_⟩
   intro a hA
   refine seq_do hA rfl rfl rfl (does_move rfl) ?_
   intro a hA
   refine seq_do (v := .slice so78 (([] : List UInt8).length) ca79) hA rfl rfl rfl (does_extract (vs := [.slice so78 (([] : List UInt8).length) ca79, .int .i64 2]) rfl rfl) ?_
   intro a hA
   refine seq_do (v := .int .i64 2) hA rfl rfl rfl (does_extract (vs := [.slice so78 (([] : List UInt8).length) ca79, .int .i64 2]) rfl rfl) ?_
   intro a hA
   refine seq_do hA rfl rfl rfl (does_assign rfl) ?_
   intro a hA
   refine seq_do hA rfl rfl rfl (does_assign rfl) ?_
   intro a hA
   refine seq_end ?_
   refine hK6 _ _ ?_
   refine wp_seq_k (fun K81 hK81 => ?_)
   refine wp_seq_k (fun K82 hK82 => ?_)
   refine wp_region_lit ?_
   refine seq_do hA rfl rfl rfl (does_move rfl) ?_
   intro a hA
   refine seq_do (v := .bool true) hA rfl rfl rfl (does_bin rfl rfl (fun w => by kernel_rfl)) ?_
   intro a hA
   refine seq_end ?_
   refine hK82 _ _ ?_
   refine wp_cond_true (hA.ev rfl) ?_
   refine wp_seq_k (fun K83 hK83 => ?_)
   refine wp_region_lit ?_
   refine seq_do (v := .agg #[.slice none 0 0, .slice none 0 0, .slice none 0 0]) hA rfl rfl rfl (does_build rfl (fun w => by kernel_rfl)) ?_
   intro a hA
   refine seq_do hA rfl rfl rfl (does_move rfl) ?_
   intro a hA
   refine s_store (us := [.slice none 0 0, .slice none 0 0, .slice none 0 0]) (L' := (.row BY 1 (.slice so78 (([] : List UInt8).length) ca79) (([] : List UInt8).length) ((Lib.byteCells [])) :: .obj g4 (.cells #[.slice none 0 0, .slice none 0 0, .slice none 0 0] 37) :: .obj g2 (.cells #[.slice sF fs.length cF_, .slice sI il.length cI, .slice sO ol.length cO] 37) :: [])) hA hM rfl rfl (m_store rfl rfl rfl (by kernel_rfl) hM 1 rfl rfl rfl) 1 rfl rfl rfl ?_
   intro w84 hM
   refine seq_do hA rfl rfl rfl (does_assign rfl) ?_
   intro a hA
   refine seq_end ?_
   refine hK83 _ _ ?_
   refine wp_ret ?_
   refine hret _ _ ?_
   refine ends (v := .tuple #[.agg #[.slice none 0 0, .slice none 0 0, .slice none 0 0], .int .i64 2]) hA rfl (.cons (res_cellS hM Wl_isS_37 rfl 1 rfl (cs := [.slice none 0 0, .slice none 0 0, .slice none 0 0]) rfl rfl) (.cons (res_tmp rfl) .nil)) rfl ?_
   rw [show wrR nm z d fs il ol = (2, [], [], []) from by unfold wrR; rw [if_pos hb7]]
   exact ret_zero hM
end Go.Proofs.Ytcjgjbaadmohbaa
