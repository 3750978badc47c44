/- The law of sets that are made. -/
import Derived.Test.YtbdhfooeanbnlaaEnF
namespace Go.Proofs.Ytbdhfooeanbnlaa
open Go.RowKit Go.Lib Go.Sort
set_option linter.unusedVariables false
set_option linter.unusedSimpArgs false
set_option maxRecDepth 100000
theorem EnG_is1_22 : Is1 Try.prog 22 := ⟨⟨_, Try.underlying22, rfl⟩, by kernel_rfl⟩
theorem EnG_is1_9 : Is1 Try.prog 9 := ⟨⟨_, Try.underlying9, rfl⟩, by kernel_rfl⟩
theorem EnG_fld_25_0 : FieldAt Try.prog 25 0 0 := ⟨_, _, Try.underlying25, rfl, rfl, by kernel_rfl⟩
theorem EnG_isS_25 : IsS Try.prog 25 2 := ⟨⟨_, Try.underlying25⟩, by kernel_rfl⟩
theorem all_any (ys : List ByteArray) (p : ByteArray → Bool) : ys.all p = !ys.any fun s => !p s := by
  induction ys with
  | nil => rfl
  | cons a t ih => rw [List.all_cons, List.any_cons, Bool.not_or, Bool.not_not, ih]
set_option maxHeartbeats 1000000 in
theorem made_tw {w : World} {so si : Option Addr} {ca ci : Nat} {l : List ByteArray} {bs : List Bool} (hR : Rs w so l) (hB : Rl w si bs) (hl : l.length ≤ 8796093021952) {sy : Option Addr} {cy : Nat} {ys : List ByteArray} (hY : Rs w sy ys) (hly : ys.length ≤ 8796093021952) {s : ByteArray} (hs : ∀ s ∈ l, s.size ≤ 281474976710656) (hsd : sndS l bs = false) (ht : twS l = true) : Calls Try.prog 3 #[.slice so l.length ca, .slice si bs.length ci, .slice sy ys.length cy, .string s] w fun e w' => e = .returned (.bool true) ∧ Below w.heap.size w w' := by
 have hM : Mg w w ([]) := Mg.start w
 refine walk_of (l := [(0, .slice so l.length ca), (1, .slice si bs.length ci), (2, .slice sy ys.length cy), (3, .string s)]) Try.func3 rfl Try.ntmps3 rfl rfl ?_
 intro Q hret hnorm hP a hA
 refine wp_seq_k (fun K1 hK1 => ?_)
 refine wp_region_lit ?_
 refine seq_do hA rfl rfl rfl (does_assign rfl) ?_
 intro a hA
 refine seq_end ?_
 refine hK1 _ _ ?_
 refine wp_seq_k (fun K2 hK2 => ?_)
 refine wp_region_lit ?_
 refine seq_do hA rfl rfl rfl (does_move rfl) ?_
 intro a hA
 refine seq_do hA rfl rfl rfl (does_move rfl) ?_
 intro a hA
 refine seq_do (v := .agg #[.slice so l.length ca, .slice si bs.length ci]) hA rfl rfl rfl (does_build rfl (fun w => by kernel_rfl)) ?_
 intro a hA
 refine s_new (vs := [.slice none 0 0, .slice none 0 0]) (t := 25) hA hM rfl rfl rfl (fun g => .pointer (some ⟨g, 0, none⟩)) (does_alloc (z := .agg #[.slice none 0 0, .slice none 0 0]) (by kernel_rfl) rfl) (by decide) ?_
 intro g3 w4 hM a hA
 refine s_store (us := [.slice so l.length ca, .slice si bs.length ci]) (L' := (.obj g3 (.cells #[.slice so l.length ca, .slice si bs.length ci] 25) :: [])) hA hM rfl rfl (m_store rfl rfl rfl (by kernel_rfl) hM 0 rfl rfl rfl) 0 rfl rfl rfl ?_
 intro w5 hM
 refine seq_end ?_
 refine hK2 _ _ ?_
 refine wp_seq_k (fun K6 hK6 => ?_)
 refine wp_region_lit ?_
 refine seq_do hA rfl rfl rfl (does_move rfl) ?_
 intro a hA
 refine seq_do hA rfl rfl rfl (does_move rfl) ?_
 intro a hA
 refine seq_call hA rfl rfl rfl (enters_func rfl rfl (fun w => by kernel_rfl)) (rsound_as (hR.below hM.bel) (hB.below hM.bel) hsd) ?_
 rintro _ w8 ⟨rfl, hb7⟩
 replace hM := hM.call hb7
 refine ⟨_, rfl, ?_⟩
 intro a hA
 refine seq_do hA rfl rfl rfl (does_assign rfl) ?_
 intro a hA
 refine seq_end ?_
 refine hK6 _ _ ?_
 refine wp_seq_k (fun K9 hK9 => ?_)
 refine wp_region_lit ?_
 refine seq_do hA rfl rfl rfl (does_move rfl) ?_
 intro a hA
 refine seq_call hA rfl rfl rfl (enters_func rfl rfl (fun w => by kernel_rfl)) (new_twice (hR.below hM.bel) hl ht) ?_
 rintro _ w11 ⟨rfl, hb10⟩
 replace hM := hM.call hb10
 refine ⟨_, rfl, ?_⟩
 intro a hA
 refine seq_do hA rfl rfl rfl (does_move rfl) ?_
 intro a hA
 refine seq_do (v := .agg #[.slice none 0 0, .slice none 0 0]) hA rfl rfl rfl (does_extract (vs := [.agg #[.slice none 0 0, .slice none 0 0], .int .i64 8]) rfl rfl) ?_
 intro a hA
 refine seq_do (v := .int .i64 8) hA rfl rfl rfl (does_extract (vs := [.agg #[.slice none 0 0, .slice none 0 0], .int .i64 8]) rfl rfl) ?_
 intro a hA
 refine s_new (vs := [.slice none 0 0, .slice none 0 0]) (t := 25) hA hM rfl rfl rfl (fun g => .pointer (some ⟨g, 0, none⟩)) (does_alloc (z := .agg #[.slice none 0 0, .slice none 0 0]) (by kernel_rfl) rfl) (by decide) ?_
 intro g12 w13 hM a hA
 refine s_store (us := [.slice none 0 0, .slice none 0 0]) (L' := (.obj g12 (.cells #[.slice none 0 0, .slice none 0 0] 25) :: .obj g3 (.cells #[.slice so l.length ca, .slice si bs.length ci] 25) :: [])) hA hM rfl rfl (m_store rfl rfl rfl (by kernel_rfl) hM 0 rfl rfl rfl) 0 rfl rfl rfl ?_
 intro w14 hM
 refine seq_do hA rfl rfl rfl (does_assign rfl) ?_
 intro a hA
 refine seq_end ?_
 refine hK9 _ _ ?_
 refine wp_seq_k (fun K15 hK15 => ?_)
 refine wp_region_lit ?_
 refine seq_do hA rfl rfl rfl (m_loadS hM EnG_isS_25 rfl 1 rfl (cs := [.slice so l.length ca, .slice si bs.length ci]) rfl rfl) ?_
 intro a hA
 refine seq_do hA rfl rfl rfl (does_move rfl) ?_
 intro a hA
 refine seq_call hA rfl rfl rfl (enters_func rfl rfl (fun w => by kernel_rfl)) (of_form (hR.below hM.bel) (hB.below hM.bel) (hY.below hM.bel) hly hsd) ?_
 rintro _ w17 ⟨rfl, hb16⟩
 replace hM := hM.call hb16
 refine ⟨_, rfl, ?_⟩
 intro a hA
 refine seq_do hA rfl rfl rfl (does_move rfl) ?_
 intro a hA
 refine seq_do (v := .agg #[.slice none 0 0, .slice none 0 0]) hA rfl rfl rfl (does_extract (vs := [.agg #[.slice none 0 0, .slice none 0 0], .int .i64 2]) rfl rfl) ?_
 intro a hA
 refine seq_do (v := .int .i64 2) hA rfl rfl rfl (does_extract (vs := [.agg #[.slice none 0 0, .slice none 0 0], .int .i64 2]) rfl rfl) ?_
 intro a hA
 refine s_new (vs := [.slice none 0 0, .slice none 0 0]) (t := 25) hA hM rfl rfl rfl (fun g => .pointer (some ⟨g, 0, none⟩)) (does_alloc (z := .agg #[.slice none 0 0, .slice none 0 0]) (by kernel_rfl) rfl) (by decide) ?_
 intro g18 w19 hM a hA
 refine s_store (us := [.slice none 0 0, .slice none 0 0]) (L' := (.obj g18 (.cells #[.slice none 0 0, .slice none 0 0] 25) :: .obj g12 (.cells #[.slice none 0 0, .slice none 0 0] 25) :: .obj g3 (.cells #[.slice so l.length ca, .slice si bs.length ci] 25) :: [])) hA hM rfl rfl (m_store rfl rfl rfl (by kernel_rfl) hM 0 rfl rfl rfl) 0 rfl rfl rfl ?_
 intro w20 hM
 refine seq_do hA rfl rfl rfl (does_assign rfl) ?_
 intro a hA
 refine seq_end ?_
 refine hK15 _ _ ?_
 refine wp_seq_k (fun K21 hK21 => ?_)
 refine wp_region_lit ?_
 refine seq_do hA rfl rfl rfl (m_loadS hM EnG_isS_25 rfl 2 rfl (cs := [.slice so l.length ca, .slice si bs.length ci]) rfl rfl) ?_
 intro a hA
 refine seq_call hA rfl rfl rfl (enters_func rfl rfl (fun w => by kernel_rfl)) (list_form (hR.below hM.bel) (hB.below hM.bel) hsd) ?_
 rintro _ w23 ⟨rfl, hb22⟩
 replace hM := hM.call hb22
 refine ⟨_, rfl, ?_⟩
 intro a hA
 refine seq_do hA rfl rfl rfl (does_move rfl) ?_
 intro a hA
 refine seq_do (v := .slice none 0 0) hA rfl rfl rfl (does_extract (vs := [.slice none 0 0, .int .i64 2]) rfl rfl) ?_
 intro a hA
 refine seq_do (v := .int .i64 2) hA rfl rfl rfl (does_extract (vs := [.slice none 0 0, .int .i64 2]) rfl rfl) ?_
 intro a hA
 refine seq_do hA rfl rfl rfl (does_assign rfl) ?_
 intro a hA
 refine seq_do hA rfl rfl rfl (does_assign rfl) ?_
 intro a hA
 refine seq_end ?_
 refine hK21 _ _ ?_
 refine wp_seq_k (fun K24 hK24 => ?_)
 refine wp_region_lit ?_
 refine seq_do hA rfl rfl rfl (m_loadS hM EnG_isS_25 rfl 2 rfl (cs := [.slice so l.length ca, .slice si bs.length ci]) rfl rfl) ?_
 intro a hA
 refine seq_do hA rfl rfl rfl (does_move rfl) ?_
 intro a hA
 refine seq_call hA rfl rfl rfl (enters_func rfl rfl (fun w => by kernel_rfl)) (index_form (hR.below hM.bel) (hB.below hM.bel) hsd) ?_
 rintro _ w26 ⟨rfl, hb25⟩
 replace hM := hM.call hb25
 refine ⟨_, rfl, ?_⟩
 intro a hA
 refine seq_do hA rfl rfl rfl (does_move rfl) ?_
 intro a hA
 refine seq_do (v := .int .i64 0) hA rfl rfl rfl (does_extract (vs := [.int .i64 0, .int .i64 2]) rfl rfl) ?_
 intro a hA
 refine seq_do (v := .int .i64 2) hA rfl rfl rfl (does_extract (vs := [.int .i64 0, .int .i64 2]) rfl rfl) ?_
 intro a hA
 refine seq_do hA rfl rfl rfl (does_assign rfl) ?_
 intro a hA
 refine seq_do hA rfl rfl rfl (does_assign rfl) ?_
 intro a hA
 refine seq_end ?_
 refine hK24 _ _ ?_
 refine wp_seq_k (fun K27 hK27 => ?_)
 refine wp_seq_k (fun K28 hK28 => ?_)
 refine wp_region_lit ?_
 refine seq_call hA rfl rfl rfl (enters_func rfl rfl (fun w => by kernel_rfl)) (awake_any) ?_
 rintro _ w30 ⟨rfl, hb29⟩
 replace hM := hM.call hb29
 refine ⟨_, rfl, ?_⟩
 intro a hA
 refine seq_do (v := .bool false) hA rfl rfl rfl (does_un rfl un_not) ?_
 intro a hA
 refine seq_do hA rfl rfl rfl (does_move rfl) ?_
 intro a hA
 refine seq_do hA rfl rfl rfl (m_loadS hM EnG_isS_25 rfl 2 rfl (cs := [.slice so l.length ca, .slice si bs.length ci]) rfl rfl) ?_
 intro a hA
 refine seq_call hA rfl rfl rfl (enters_func rfl rfl (fun w => by kernel_rfl)) (sound_as (hR.below hM.bel) (hB.below hM.bel) hsd) ?_
 rintro _ w32 ⟨rfl, hb31⟩
 replace hM := hM.call hb31
 refine ⟨_, rfl, ?_⟩
 intro a hA
 refine seq_do hA rfl rfl rfl (does_move rfl) ?_
 intro a hA
 refine seq_do (v := .bool false) hA rfl rfl rfl (does_bin rfl rfl (bin_neqB Try.underlying4)) ?_
 intro a hA
 refine seq_do (v := .bool false) hA rfl rfl rfl (does_pick rfl rfl rfl rfl) ?_
 intro a hA
 refine seq_end ?_
 refine hK28 _ _ ?_
 refine wp_cond_false (hA.ev rfl) ?_
 refine wp_skip ?_
 refine hK27 _ _ ?_
 refine wp_seq_k (fun K33 hK33 => ?_)
 refine wp_block ?_
 refine wp_seq_k (fun K34 hK34 => ?_)
 refine wp_region_lit ?_
 refine seq_do hA rfl rfl rfl (does_move rfl) ?_
 intro a hA
 refine seq_call hA rfl rfl rfl (enters_func rfl rfl (fun w => by kernel_rfl)) (rtwice_as (hR.below hM.bel) hl ht) ?_
 rintro _ w36 ⟨rfl, hb35⟩
 replace hM := hM.call hb35
 refine ⟨_, rfl, ?_⟩
 intro a hA
 refine seq_do hA rfl rfl rfl (does_assign rfl) ?_
 intro a hA
 refine seq_end ?_
 refine hK34 _ _ ?_
 refine wp_cond_true (hA.ev rfl) ?_
 refine wp_seq_k (fun K37 hK37 => ?_)
 refine wp_region_lit ?_
 refine seq_do hA rfl rfl rfl (does_move rfl) ?_
 intro a hA
 refine seq_do (v := .bool false) hA rfl rfl rfl (does_bin rfl rfl (fun w => by kernel_rfl)) ?_
 intro a hA
 refine seq_end ?_
 refine hK37 _ _ ?_
 refine wp_cond_false (hA.ev rfl) ?_
 refine wp_skip ?_
 refine hK33 _ _ ?_
 refine wp_seq_k (fun K38 hK38 => ?_)
 refine wp_seq_k (fun K39 hK39 => ?_)
 refine wp_region_lit ?_
 refine seq_do hA rfl rfl rfl (does_move rfl) ?_
 intro a hA
 refine seq_do (v := .bool true) hA rfl rfl rfl (does_un rfl un_not) ?_
 intro a hA
 refine seq_end ?_
 refine hK39 _ _ ?_
 refine wp_cond_true (hA.ev rfl) ?_
 refine wp_seq_k (fun K40 hK40 => ?_)
 refine wp_region_lit ?_
 refine seq_do hA rfl rfl rfl (does_move rfl) ?_
 intro a hA
 refine seq_do (v := .bool true) hA rfl rfl rfl (does_bin rfl rfl (fun w => by kernel_rfl)) ?_
 intro a hA
 refine seq_do hA rfl rfl rfl (does_move rfl) ?_
 intro a hA
 refine seq_do hA rfl rfl rfl (does_move rfl) ?_
 intro a hA
 refine seq_do (v := .bool true) hA rfl rfl rfl (does_bin rfl rfl (fun w => by kernel_rfl)) ?_
 intro a hA
 refine seq_do (v := .bool true) hA rfl rfl rfl (does_pick rfl rfl rfl rfl) ?_
 intro a hA
 refine seq_do hA rfl rfl rfl (does_move rfl) ?_
 intro a hA
 refine seq_do hA rfl rfl rfl (does_move rfl) ?_
 intro a hA
 refine seq_do (v := .bool true) hA rfl rfl rfl (does_bin rfl rfl (fun w => by kernel_rfl)) ?_
 intro a hA
 refine seq_do (v := .bool true) hA rfl rfl rfl (does_pick rfl rfl rfl rfl) ?_
 intro a hA
 refine seq_do hA rfl rfl rfl (does_move rfl) ?_
 intro a hA
 refine seq_do hA rfl rfl rfl (does_move rfl) ?_
 intro a hA
 refine seq_do (v := .int .i64 0) hA rfl rfl rfl (does_len Try.underlying22 rfl) ?_
 intro a hA
 refine seq_do (v := .bool true) hA rfl rfl rfl (does_bin rfl rfl (fun w => by kernel_rfl)) ?_
 intro a hA
 refine seq_do (v := .bool true) hA rfl rfl rfl (does_pick rfl rfl rfl rfl) ?_
 intro a hA
 refine seq_do hA rfl rfl rfl (does_move rfl) ?_
 intro a hA
 refine seq_do hA rfl rfl rfl (does_move rfl) ?_
 intro a hA
 refine seq_do (v := .bool true) hA rfl rfl rfl (does_bin rfl rfl (fun w => by kernel_rfl)) ?_
 intro a hA
 refine seq_do (v := .bool true) hA rfl rfl rfl (does_pick rfl rfl rfl rfl) ?_
 intro a hA
 refine seq_do hA rfl rfl rfl (does_move rfl) ?_
 intro a hA
 refine seq_do (v := .pointer (some ⟨g18, 0, none⟩)) hA rfl rfl rfl (does_field EnG_fld_25_0 rfl rfl) ?_
 intro a hA
 refine seq_do hA rfl rfl rfl (m_load1 hM EnG_is1_22 rfl 0 rfl rfl) ?_
 intro a hA
 refine seq_do (v := .int .i64 0) hA rfl rfl rfl (does_len Try.underlying22 rfl) ?_
 intro a hA
 refine seq_do (v := .bool true) hA rfl rfl rfl (does_bin rfl rfl (fun w => by kernel_rfl)) ?_
 intro a hA
 refine seq_do (v := .bool true) hA rfl rfl rfl (does_pick rfl rfl rfl rfl) ?_
 intro a hA
 refine seq_do hA rfl rfl rfl (does_assign rfl) ?_
 intro a hA
 refine seq_end ?_
 refine hK40 _ _ ?_
 refine wp_ret ?_
 refine hret _ _ ?_
 refine ends (v := .bool true) hA rfl (.cons (res_tmp rfl) .nil) rfl ?_
 exact ⟨rfl, hM.bel⟩
set_option maxHeartbeats 1000000 in
theorem made_lg {w : World} {so si : Option Addr} {ca ci : Nat} {l : List ByteArray} {bs : List Bool} (hR : Rs w so l) (hB : Rl w si bs) (hl : l.length ≤ 8796093021952) {sy : Option Addr} {cy : Nat} {ys : List ByteArray} (hY : Rs w sy ys) (hly : ys.length ≤ 8796093021952) {s : ByteArray} (hs : ∀ s ∈ l, s.size ≤ 281474976710656) (hsd : sndS l bs = false) (ht : twS l = false) (hlg : 64 < l.length) : Calls Try.prog 3 #[.slice so l.length ca, .slice si bs.length ci, .slice sy ys.length cy, .string s] w fun e w' => e = .returned (.bool true) ∧ Below w.heap.size w w' := by
 have hM : Mg w w ([]) := Mg.start w
 refine walk_of (l := [(0, .slice so l.length ca), (1, .slice si bs.length ci), (2, .slice sy ys.length cy), (3, .string s)]) Try.func3 rfl Try.ntmps3 rfl rfl ?_
 intro Q hret hnorm hP a hA
 refine wp_seq_k (fun K1 hK1 => ?_)
 refine wp_region_lit ?_
 refine seq_do hA rfl rfl rfl (does_assign rfl) ?_
 intro a hA
 refine seq_end ?_
 refine hK1 _ _ ?_
 refine wp_seq_k (fun K2 hK2 => ?_)
 refine wp_region_lit ?_
 refine seq_do hA rfl rfl rfl (does_move rfl) ?_
 intro a hA
 refine seq_do hA rfl rfl rfl (does_move rfl) ?_
 intro a hA
 refine seq_do (v := .agg #[.slice so l.length ca, .slice si bs.length ci]) hA rfl rfl rfl (does_build rfl (fun w => by kernel_rfl)) ?_
 intro a hA
 refine s_new (vs := [.slice none 0 0, .slice none 0 0]) (t := 25) hA hM rfl rfl rfl (fun g => .pointer (some ⟨g, 0, none⟩)) (does_alloc (z := .agg #[.slice none 0 0, .slice none 0 0]) (by kernel_rfl) rfl) (by decide) ?_
 intro g3 w4 hM a hA
 refine s_store (us := [.slice so l.length ca, .slice si bs.length ci]) (L' := (.obj g3 (.cells #[.slice so l.length ca, .slice si bs.length ci] 25) :: [])) hA hM rfl rfl (m_store rfl rfl rfl (by kernel_rfl) hM 0 rfl rfl rfl) 0 rfl rfl rfl ?_
 intro w5 hM
 refine seq_end ?_
 refine hK2 _ _ ?_
 refine wp_seq_k (fun K6 hK6 => ?_)
 refine wp_region_lit ?_
 refine seq_do hA rfl rfl rfl (does_move rfl) ?_
 intro a hA
 refine seq_do hA rfl rfl rfl (does_move rfl) ?_
 intro a hA
 refine seq_call hA rfl rfl rfl (enters_func rfl rfl (fun w => by kernel_rfl)) (rsound_as (hR.below hM.bel) (hB.below hM.bel) hsd) ?_
 rintro _ w8 ⟨rfl, hb7⟩
 replace hM := hM.call hb7
 refine ⟨_, rfl, ?_⟩
 intro a hA
 refine seq_do hA rfl rfl rfl (does_assign rfl) ?_
 intro a hA
 refine seq_end ?_
 refine hK6 _ _ ?_
 refine wp_seq_k (fun K9 hK9 => ?_)
 refine wp_region_lit ?_
 refine seq_do hA rfl rfl rfl (does_move rfl) ?_
 intro a hA
 refine seq_call hA rfl rfl rfl (enters_func rfl rfl (fun w => by kernel_rfl)) (new_large (hR.below hM.bel) hl ht hlg) ?_
 rintro _ w11 ⟨rfl, hb10⟩
 replace hM := hM.call hb10
 refine ⟨_, rfl, ?_⟩
 intro a hA
 refine seq_do hA rfl rfl rfl (does_move rfl) ?_
 intro a hA
 refine seq_do (v := .agg #[.slice none 0 0, .slice none 0 0]) hA rfl rfl rfl (does_extract (vs := [.agg #[.slice none 0 0, .slice none 0 0], .int .i64 4]) rfl rfl) ?_
 intro a hA
 refine seq_do (v := .int .i64 4) hA rfl rfl rfl (does_extract (vs := [.agg #[.slice none 0 0, .slice none 0 0], .int .i64 4]) rfl rfl) ?_
 intro a hA
 refine s_new (vs := [.slice none 0 0, .slice none 0 0]) (t := 25) hA hM rfl rfl rfl (fun g => .pointer (some ⟨g, 0, none⟩)) (does_alloc (z := .agg #[.slice none 0 0, .slice none 0 0]) (by kernel_rfl) rfl) (by decide) ?_
 intro g12 w13 hM a hA
 refine s_store (us := [.slice none 0 0, .slice none 0 0]) (L' := (.obj g12 (.cells #[.slice none 0 0, .slice none 0 0] 25) :: .obj g3 (.cells #[.slice so l.length ca, .slice si bs.length ci] 25) :: [])) hA hM rfl rfl (m_store rfl rfl rfl (by kernel_rfl) hM 0 rfl rfl rfl) 0 rfl rfl rfl ?_
 intro w14 hM
 refine seq_do hA rfl rfl rfl (does_assign rfl) ?_
 intro a hA
 refine seq_end ?_
 refine hK9 _ _ ?_
 refine wp_seq_k (fun K15 hK15 => ?_)
 refine wp_region_lit ?_
 refine seq_do hA rfl rfl rfl (m_loadS hM EnG_isS_25 rfl 1 rfl (cs := [.slice so l.length ca, .slice si bs.length ci]) rfl rfl) ?_
 intro a hA
 refine seq_do hA rfl rfl rfl (does_move rfl) ?_
 intro a hA
 refine seq_call hA rfl rfl rfl (enters_func rfl rfl (fun w => by kernel_rfl)) (of_form (hR.below hM.bel) (hB.below hM.bel) (hY.below hM.bel) hly hsd) ?_
 rintro _ w17 ⟨rfl, hb16⟩
 replace hM := hM.call hb16
 refine ⟨_, rfl, ?_⟩
 intro a hA
 refine seq_do hA rfl rfl rfl (does_move rfl) ?_
 intro a hA
 refine seq_do (v := .agg #[.slice none 0 0, .slice none 0 0]) hA rfl rfl rfl (does_extract (vs := [.agg #[.slice none 0 0, .slice none 0 0], .int .i64 2]) rfl rfl) ?_
 intro a hA
 refine seq_do (v := .int .i64 2) hA rfl rfl rfl (does_extract (vs := [.agg #[.slice none 0 0, .slice none 0 0], .int .i64 2]) rfl rfl) ?_
 intro a hA
 refine s_new (vs := [.slice none 0 0, .slice none 0 0]) (t := 25) hA hM rfl rfl rfl (fun g => .pointer (some ⟨g, 0, none⟩)) (does_alloc (z := .agg #[.slice none 0 0, .slice none 0 0]) (by kernel_rfl) rfl) (by decide) ?_
 intro g18 w19 hM a hA
 refine s_store (us := [.slice none 0 0, .slice none 0 0]) (L' := (.obj g18 (.cells #[.slice none 0 0, .slice none 0 0] 25) :: .obj g12 (.cells #[.slice none 0 0, .slice none 0 0] 25) :: .obj g3 (.cells #[.slice so l.length ca, .slice si bs.length ci] 25) :: [])) hA hM rfl rfl (m_store rfl rfl rfl (by kernel_rfl) hM 0 rfl rfl rfl) 0 rfl rfl rfl ?_
 intro w20 hM
 refine seq_do hA rfl rfl rfl (does_assign rfl) ?_
 intro a hA
 refine seq_end ?_
 refine hK15 _ _ ?_
 refine wp_seq_k (fun K21 hK21 => ?_)
 refine wp_region_lit ?_
 refine seq_do hA rfl rfl rfl (m_loadS hM EnG_isS_25 rfl 2 rfl (cs := [.slice so l.length ca, .slice si bs.length ci]) rfl rfl) ?_
 intro a hA
 refine seq_call hA rfl rfl rfl (enters_func rfl rfl (fun w => by kernel_rfl)) (list_form (hR.below hM.bel) (hB.below hM.bel) hsd) ?_
 rintro _ w23 ⟨rfl, hb22⟩
 replace hM := hM.call hb22
 refine ⟨_, rfl, ?_⟩
 intro a hA
 refine seq_do hA rfl rfl rfl (does_move rfl) ?_
 intro a hA
 refine seq_do (v := .slice none 0 0) hA rfl rfl rfl (does_extract (vs := [.slice none 0 0, .int .i64 2]) rfl rfl) ?_
 intro a hA
 refine seq_do (v := .int .i64 2) hA rfl rfl rfl (does_extract (vs := [.slice none 0 0, .int .i64 2]) rfl rfl) ?_
 intro a hA
 refine seq_do hA rfl rfl rfl (does_assign rfl) ?_
 intro a hA
 refine seq_do hA rfl rfl rfl (does_assign rfl) ?_
 intro a hA
 refine seq_end ?_
 refine hK21 _ _ ?_
 refine wp_seq_k (fun K24 hK24 => ?_)
 refine wp_region_lit ?_
 refine seq_do hA rfl rfl rfl (m_loadS hM EnG_isS_25 rfl 2 rfl (cs := [.slice so l.length ca, .slice si bs.length ci]) rfl rfl) ?_
 intro a hA
 refine seq_do hA rfl rfl rfl (does_move rfl) ?_
 intro a hA
 refine seq_call hA rfl rfl rfl (enters_func rfl rfl (fun w => by kernel_rfl)) (index_form (hR.below hM.bel) (hB.below hM.bel) hsd) ?_
 rintro _ w26 ⟨rfl, hb25⟩
 replace hM := hM.call hb25
 refine ⟨_, rfl, ?_⟩
 intro a hA
 refine seq_do hA rfl rfl rfl (does_move rfl) ?_
 intro a hA
 refine seq_do (v := .int .i64 0) hA rfl rfl rfl (does_extract (vs := [.int .i64 0, .int .i64 2]) rfl rfl) ?_
 intro a hA
 refine seq_do (v := .int .i64 2) hA rfl rfl rfl (does_extract (vs := [.int .i64 0, .int .i64 2]) rfl rfl) ?_
 intro a hA
 refine seq_do hA rfl rfl rfl (does_assign rfl) ?_
 intro a hA
 refine seq_do hA rfl rfl rfl (does_assign rfl) ?_
 intro a hA
 refine seq_end ?_
 refine hK24 _ _ ?_
 refine wp_seq_k (fun K27 hK27 => ?_)
 refine wp_seq_k (fun K28 hK28 => ?_)
 refine wp_region_lit ?_
 refine seq_call hA rfl rfl rfl (enters_func rfl rfl (fun w => by kernel_rfl)) (awake_any) ?_
 rintro _ w30 ⟨rfl, hb29⟩
 replace hM := hM.call hb29
 refine ⟨_, rfl, ?_⟩
 intro a hA
 refine seq_do (v := .bool false) hA rfl rfl rfl (does_un rfl un_not) ?_
 intro a hA
 refine seq_do hA rfl rfl rfl (does_move rfl) ?_
 intro a hA
 refine seq_do hA rfl rfl rfl (m_loadS hM EnG_isS_25 rfl 2 rfl (cs := [.slice so l.length ca, .slice si bs.length ci]) rfl rfl) ?_
 intro a hA
 refine seq_call hA rfl rfl rfl (enters_func rfl rfl (fun w => by kernel_rfl)) (sound_as (hR.below hM.bel) (hB.below hM.bel) hsd) ?_
 rintro _ w32 ⟨rfl, hb31⟩
 replace hM := hM.call hb31
 refine ⟨_, rfl, ?_⟩
 intro a hA
 refine seq_do hA rfl rfl rfl (does_move rfl) ?_
 intro a hA
 refine seq_do (v := .bool false) hA rfl rfl rfl (does_bin rfl rfl (bin_neqB Try.underlying4)) ?_
 intro a hA
 refine seq_do (v := .bool false) hA rfl rfl rfl (does_pick rfl rfl rfl rfl) ?_
 intro a hA
 refine seq_end ?_
 refine hK28 _ _ ?_
 refine wp_cond_false (hA.ev rfl) ?_
 refine wp_skip ?_
 refine hK27 _ _ ?_
 refine wp_seq_k (fun K33 hK33 => ?_)
 refine wp_block ?_
 refine wp_seq_k (fun K34 hK34 => ?_)
 refine wp_region_lit ?_
 refine seq_do hA rfl rfl rfl (does_move rfl) ?_
 intro a hA
 refine seq_call hA rfl rfl rfl (enters_func rfl rfl (fun w => by kernel_rfl)) (rtwice_as (hR.below hM.bel) hl ht) ?_
 rintro _ w36 ⟨rfl, hb35⟩
 replace hM := hM.call hb35
 refine ⟨_, rfl, ?_⟩
 intro a hA
 refine seq_do hA rfl rfl rfl (does_assign rfl) ?_
 intro a hA
 refine seq_end ?_
 refine hK34 _ _ ?_
 refine wp_cond_false (hA.ev rfl) ?_
 refine wp_seq_k (fun K37 hK37 => ?_)
 refine wp_region_lit ?_
 refine seq_do hA rfl rfl rfl (does_move rfl) ?_
 intro a hA
 refine seq_do (v := .int .i64 (((l.length : Nat) : Int))) hA rfl rfl rfl (does_len Try.underlying22 rfl) ?_
 intro a hA
 refine seq_do (v := .bool true) hA rfl rfl rfl (does_bin rfl rfl (fun w => (bin_gtr w).trans (by rw [show (decide (64 < ((l.length : Nat) : Int))) = true from (decide_eq_true (by omega))]))) ?_
 intro a hA
 refine seq_do hA rfl rfl rfl (does_assign rfl) ?_
 intro a hA
 refine seq_end ?_
 refine hK37 _ _ ?_
 refine wp_cond_true (hA.ev rfl) ?_
 refine wp_seq_k (fun K38 hK38 => ?_)
 refine wp_region_lit ?_
 refine seq_do hA rfl rfl rfl (does_move rfl) ?_
 intro a hA
 refine seq_do (v := .bool false) hA rfl rfl rfl (does_bin rfl rfl (fun w => by kernel_rfl)) ?_
 intro a hA
 refine seq_end ?_
 refine hK38 _ _ ?_
 refine wp_cond_false (hA.ev rfl) ?_
 refine wp_skip ?_
 refine hK33 _ _ ?_
 refine wp_seq_k (fun K39 hK39 => ?_)
 refine wp_seq_k (fun K40 hK40 => ?_)
 refine wp_region_lit ?_
 refine seq_do hA rfl rfl rfl (does_move rfl) ?_
 intro a hA
 refine seq_do (v := .bool true) hA rfl rfl rfl (does_un rfl un_not) ?_
 intro a hA
 refine seq_end ?_
 refine hK40 _ _ ?_
 refine wp_cond_true (hA.ev rfl) ?_
 refine wp_seq_k (fun K41 hK41 => ?_)
 refine wp_region_lit ?_
 refine seq_do hA rfl rfl rfl (does_move rfl) ?_
 intro a hA
 refine seq_do (v := .bool true) hA rfl rfl rfl (does_bin rfl rfl (fun w => by kernel_rfl)) ?_
 intro a hA
 refine seq_do hA rfl rfl rfl (does_move rfl) ?_
 intro a hA
 refine seq_do hA rfl rfl rfl (does_move rfl) ?_
 intro a hA
 refine seq_do (v := .bool true) hA rfl rfl rfl (does_bin rfl rfl (fun w => by kernel_rfl)) ?_
 intro a hA
 refine seq_do (v := .bool true) hA rfl rfl rfl (does_pick rfl rfl rfl rfl) ?_
 intro a hA
 refine seq_do hA rfl rfl rfl (does_move rfl) ?_
 intro a hA
 refine seq_do hA rfl rfl rfl (does_move rfl) ?_
 intro a hA
 refine seq_do (v := .bool true) hA rfl rfl rfl (does_bin rfl rfl (fun w => by kernel_rfl)) ?_
 intro a hA
 refine seq_do (v := .bool true) hA rfl rfl rfl (does_pick rfl rfl rfl rfl) ?_
 intro a hA
 refine seq_do hA rfl rfl rfl (does_move rfl) ?_
 intro a hA
 refine seq_do hA rfl rfl rfl (does_move rfl) ?_
 intro a hA
 refine seq_do (v := .int .i64 0) hA rfl rfl rfl (does_len Try.underlying22 rfl) ?_
 intro a hA
 refine seq_do (v := .bool true) hA rfl rfl rfl (does_bin rfl rfl (fun w => by kernel_rfl)) ?_
 intro a hA
 refine seq_do (v := .bool true) hA rfl rfl rfl (does_pick rfl rfl rfl rfl) ?_
 intro a hA
 refine seq_do hA rfl rfl rfl (does_move rfl) ?_
 intro a hA
 refine seq_do hA rfl rfl rfl (does_move rfl) ?_
 intro a hA
 refine seq_do (v := .bool true) hA rfl rfl rfl (does_bin rfl rfl (fun w => by kernel_rfl)) ?_
 intro a hA
 refine seq_do (v := .bool true) hA rfl rfl rfl (does_pick rfl rfl rfl rfl) ?_
 intro a hA
 refine seq_do hA rfl rfl rfl (does_move rfl) ?_
 intro a hA
 refine seq_do (v := .pointer (some ⟨g18, 0, none⟩)) hA rfl rfl rfl (does_field EnG_fld_25_0 rfl rfl) ?_
 intro a hA
 refine seq_do hA rfl rfl rfl (m_load1 hM EnG_is1_22 rfl 0 rfl rfl) ?_
 intro a hA
 refine seq_do (v := .int .i64 0) hA rfl rfl rfl (does_len Try.underlying22 rfl) ?_
 intro a hA
 refine seq_do (v := .bool true) hA rfl rfl rfl (does_bin rfl rfl (fun w => by kernel_rfl)) ?_
 intro a hA
 refine seq_do (v := .bool true) hA rfl rfl rfl (does_pick rfl rfl rfl rfl) ?_
 intro a hA
 refine seq_do hA rfl rfl rfl (does_assign rfl) ?_
 intro a hA
 refine seq_end ?_
 refine hK41 _ _ ?_
 refine wp_ret ?_
 refine hret _ _ ?_
 refine ends (v := .bool true) hA rfl (.cons (res_tmp rfl) .nil) rfl ?_
 exact ⟨rfl, hM.bel⟩
set_option maxHeartbeats 1000000 in
theorem made_fm {w : World} {so si : Option Addr} {ca ci : Nat} {l : List ByteArray} {bs : List Bool} (hR : Rs w so l) (hB : Rl w si bs) (hl : l.length ≤ 8796093021952) {sy : Option Addr} {cy : Nat} {ys : List ByteArray} (hY : Rs w sy ys) (hly : ys.length ≤ 8796093021952) {s : ByteArray} (hs : ∀ s ∈ l, s.size ≤ 281474976710656) (hsd : sndS l bs = false) (ht : twS l = false) (h64 : l.length ≤ 64) : Calls Try.prog 3 #[.slice so l.length ca, .slice si bs.length ci, .slice sy ys.length cy, .string s] w fun e w' => e = .returned (.bool true) ∧ Below w.heap.size w w' := by
 have hnd : l.Nodup := by simpa [twS] using ht
 have hM : Mg w w ([]) := Mg.start w
 refine walk_of (l := [(0, .slice so l.length ca), (1, .slice si bs.length ci), (2, .slice sy ys.length cy), (3, .string s)]) Try.func3 rfl Try.ntmps3 rfl rfl ?_
 intro Q hret hnorm hP a hA
 refine wp_seq_k (fun K1 hK1 => ?_)
 refine wp_region_lit ?_
 refine seq_do hA rfl rfl rfl (does_assign rfl) ?_
 intro a hA
 refine seq_end ?_
 refine hK1 _ _ ?_
 refine wp_seq_k (fun K2 hK2 => ?_)
 refine wp_region_lit ?_
 refine seq_do hA rfl rfl rfl (does_move rfl) ?_
 intro a hA
 refine seq_do hA rfl rfl rfl (does_move rfl) ?_
 intro a hA
 refine seq_do (v := .agg #[.slice so l.length ca, .slice si bs.length ci]) hA rfl rfl rfl (does_build rfl (fun w => by kernel_rfl)) ?_
 intro a hA
 refine s_new (vs := [.slice none 0 0, .slice none 0 0]) (t := 25) hA hM rfl rfl rfl (fun g => .pointer (some ⟨g, 0, none⟩)) (does_alloc (z := .agg #[.slice none 0 0, .slice none 0 0]) (by kernel_rfl) rfl) (by decide) ?_
 intro g3 w4 hM a hA
 refine s_store (us := [.slice so l.length ca, .slice si bs.length ci]) (L' := (.obj g3 (.cells #[.slice so l.length ca, .slice si bs.length ci] 25) :: [])) hA hM rfl rfl (m_store rfl rfl rfl (by kernel_rfl) hM 0 rfl rfl rfl) 0 rfl rfl rfl ?_
 intro w5 hM
 refine seq_end ?_
 refine hK2 _ _ ?_
 refine wp_seq_k (fun K6 hK6 => ?_)
 refine wp_region_lit ?_
 refine seq_do hA rfl rfl rfl (does_move rfl) ?_
 intro a hA
 refine seq_do hA rfl rfl rfl (does_move rfl) ?_
 intro a hA
 refine seq_call hA rfl rfl rfl (enters_func rfl rfl (fun w => by kernel_rfl)) (rsound_as (hR.below hM.bel) (hB.below hM.bel) hsd) ?_
 rintro _ w8 ⟨rfl, hb7⟩
 replace hM := hM.call hb7
 refine ⟨_, rfl, ?_⟩
 intro a hA
 refine seq_do hA rfl rfl rfl (does_assign rfl) ?_
 intro a hA
 refine seq_end ?_
 refine hK6 _ _ ?_
 refine wp_seq_k (fun K9 hK9 => ?_)
 refine wp_region_lit ?_
 refine seq_do hA rfl rfl rfl (does_move rfl) ?_
 intro a hA
 refine seq_call hA rfl rfl rfl (enters_func rfl rfl (fun w => by kernel_rfl)) (new_okN (hR.below hM.bel) hs ht h64) ?_
 rintro _ w17 ⟨so10, ca11, si12, ci13, q14, hq15, rfl, hM16⟩
 replace hM : Mg w w17 (.row 9 1 (.slice so10 l.length ca11) l.length (strC l) :: .row 4 1 (.slice si12 q14.length ci13) q14.length (boolC q14) :: .obj g3 (.cells #[.slice so l.length ca, .slice si bs.length ci] 25) :: []) := (hM.both hM16 (noBld_cons (by simp) (noBld_quiet quietL_nil)) (noBld_cons (by simp) (noBld_cons (by simp) (noBld_quiet quietL_nil))))
 refine ⟨_, rfl, ?_⟩
 intro a hA
 refine seq_do hA rfl rfl rfl (does_move rfl) ?_
 intro a hA
 refine seq_do (v := .agg #[.slice so10 l.length ca11, .slice si12 q14.length ci13]) hA rfl rfl rfl (does_extract (vs := [.agg #[.slice so10 l.length ca11, .slice si12 q14.length ci13], .int .i64 0]) rfl rfl) ?_
 intro a hA
 refine seq_do (v := .int .i64 0) hA rfl rfl rfl (does_extract (vs := [.agg #[.slice so10 l.length ca11, .slice si12 q14.length ci13], .int .i64 0]) rfl rfl) ?_
 intro a hA
 refine s_new (vs := [.slice none 0 0, .slice none 0 0]) (t := 25) hA hM rfl rfl rfl (fun g => .pointer (some ⟨g, 0, none⟩)) (does_alloc (z := .agg #[.slice none 0 0, .slice none 0 0]) (by kernel_rfl) rfl) (by decide) ?_
 intro g18 w19 hM a hA
 refine s_store (us := [.slice so10 l.length ca11, .slice si12 q14.length ci13]) (L' := (.obj g18 (.cells #[.slice so10 l.length ca11, .slice si12 q14.length ci13] 25) :: .row 9 1 (.slice so10 l.length ca11) l.length (strC l) :: .row 4 1 (.slice si12 q14.length ci13) q14.length (boolC q14) :: .obj g3 (.cells #[.slice so l.length ca, .slice si bs.length ci] 25) :: [])) hA hM rfl rfl (m_store rfl rfl rfl (by kernel_rfl) hM 0 rfl rfl rfl) 0 rfl rfl rfl ?_
 intro w20 hM
 refine seq_do hA rfl rfl rfl (does_assign rfl) ?_
 intro a hA
 refine seq_end ?_
 refine hK9 _ _ ?_
 refine wp_seq_k (fun K21 hK21 => ?_)
 refine wp_region_lit ?_
 refine seq_do hA rfl rfl rfl (m_loadS hM EnG_isS_25 rfl 3 rfl (cs := [.slice so l.length ca, .slice si bs.length ci]) rfl rfl) ?_
 intro a hA
 refine seq_do hA rfl rfl rfl (does_move rfl) ?_
 intro a hA
 refine seq_call hA rfl rfl rfl (enters_func rfl rfl (fun w => by kernel_rfl)) (of_form (hR.below hM.bel) (hB.below hM.bel) (hY.below hM.bel) hly hsd) ?_
 rintro _ w23 ⟨rfl, hb22⟩
 replace hM := hM.call hb22
 refine ⟨_, rfl, ?_⟩
 intro a hA
 refine seq_do hA rfl rfl rfl (does_move rfl) ?_
 intro a hA
 refine seq_do (v := .agg #[.slice none 0 0, .slice none 0 0]) hA rfl rfl rfl (does_extract (vs := [.agg #[.slice none 0 0, .slice none 0 0], .int .i64 2]) rfl rfl) ?_
 intro a hA
 refine seq_do (v := .int .i64 2) hA rfl rfl rfl (does_extract (vs := [.agg #[.slice none 0 0, .slice none 0 0], .int .i64 2]) rfl rfl) ?_
 intro a hA
 refine s_new (vs := [.slice none 0 0, .slice none 0 0]) (t := 25) hA hM rfl rfl rfl (fun g => .pointer (some ⟨g, 0, none⟩)) (does_alloc (z := .agg #[.slice none 0 0, .slice none 0 0]) (by kernel_rfl) rfl) (by decide) ?_
 intro g24 w25 hM a hA
 refine s_store (us := [.slice none 0 0, .slice none 0 0]) (L' := (.obj g24 (.cells #[.slice none 0 0, .slice none 0 0] 25) :: .obj g18 (.cells #[.slice so10 l.length ca11, .slice si12 q14.length ci13] 25) :: .row 9 1 (.slice so10 l.length ca11) l.length (strC l) :: .row 4 1 (.slice si12 q14.length ci13) q14.length (boolC q14) :: .obj g3 (.cells #[.slice so l.length ca, .slice si bs.length ci] 25) :: [])) hA hM rfl rfl (m_store rfl rfl rfl (by kernel_rfl) hM 0 rfl rfl rfl) 0 rfl rfl rfl ?_
 intro w26 hM
 refine seq_do hA rfl rfl rfl (does_assign rfl) ?_
 intro a hA
 refine seq_end ?_
 refine hK21 _ _ ?_
 refine wp_seq_k (fun K27 hK27 => ?_)
 refine wp_region_lit ?_
 refine seq_do hA rfl rfl rfl (m_loadS hM EnG_isS_25 rfl 4 rfl (cs := [.slice so l.length ca, .slice si bs.length ci]) rfl rfl) ?_
 intro a hA
 refine seq_call hA rfl rfl rfl (enters_func rfl rfl (fun w => by kernel_rfl)) (list_form (hR.below hM.bel) (hB.below hM.bel) hsd) ?_
 rintro _ w29 ⟨rfl, hb28⟩
 replace hM := hM.call hb28
 refine ⟨_, rfl, ?_⟩
 intro a hA
 refine seq_do hA rfl rfl rfl (does_move rfl) ?_
 intro a hA
 refine seq_do (v := .slice none 0 0) hA rfl rfl rfl (does_extract (vs := [.slice none 0 0, .int .i64 2]) rfl rfl) ?_
 intro a hA
 refine seq_do (v := .int .i64 2) hA rfl rfl rfl (does_extract (vs := [.slice none 0 0, .int .i64 2]) rfl rfl) ?_
 intro a hA
 refine seq_do hA rfl rfl rfl (does_assign rfl) ?_
 intro a hA
 refine seq_do hA rfl rfl rfl (does_assign rfl) ?_
 intro a hA
 refine seq_end ?_
 refine hK27 _ _ ?_
 refine wp_seq_k (fun K30 hK30 => ?_)
 refine wp_region_lit ?_
 refine seq_do hA rfl rfl rfl (m_loadS hM EnG_isS_25 rfl 4 rfl (cs := [.slice so l.length ca, .slice si bs.length ci]) rfl rfl) ?_
 intro a hA
 refine seq_do hA rfl rfl rfl (does_move rfl) ?_
 intro a hA
 refine seq_call hA rfl rfl rfl (enters_func rfl rfl (fun w => by kernel_rfl)) (index_form (hR.below hM.bel) (hB.below hM.bel) hsd) ?_
 rintro _ w32 ⟨rfl, hb31⟩
 replace hM := hM.call hb31
 refine ⟨_, rfl, ?_⟩
 intro a hA
 refine seq_do hA rfl rfl rfl (does_move rfl) ?_
 intro a hA
 refine seq_do (v := .int .i64 0) hA rfl rfl rfl (does_extract (vs := [.int .i64 0, .int .i64 2]) rfl rfl) ?_
 intro a hA
 refine seq_do (v := .int .i64 2) hA rfl rfl rfl (does_extract (vs := [.int .i64 0, .int .i64 2]) rfl rfl) ?_
 intro a hA
 refine seq_do hA rfl rfl rfl (does_assign rfl) ?_
 intro a hA
 refine seq_do hA rfl rfl rfl (does_assign rfl) ?_
 intro a hA
 refine seq_end ?_
 refine hK30 _ _ ?_
 refine wp_seq_k (fun K33 hK33 => ?_)
 refine wp_seq_k (fun K34 hK34 => ?_)
 refine wp_region_lit ?_
 refine seq_call hA rfl rfl rfl (enters_func rfl rfl (fun w => by kernel_rfl)) (awake_any) ?_
 rintro _ w36 ⟨rfl, hb35⟩
 replace hM := hM.call hb35
 refine ⟨_, rfl, ?_⟩
 intro a hA
 refine seq_do (v := .bool false) hA rfl rfl rfl (does_un rfl un_not) ?_
 intro a hA
 refine seq_do hA rfl rfl rfl (does_move rfl) ?_
 intro a hA
 refine seq_do hA rfl rfl rfl (m_loadS hM EnG_isS_25 rfl 4 rfl (cs := [.slice so l.length ca, .slice si bs.length ci]) rfl rfl) ?_
 intro a hA
 refine seq_call hA rfl rfl rfl (enters_func rfl rfl (fun w => by kernel_rfl)) (sound_as (hR.below hM.bel) (hB.below hM.bel) hsd) ?_
 rintro _ w38 ⟨rfl, hb37⟩
 replace hM := hM.call hb37
 refine ⟨_, rfl, ?_⟩
 intro a hA
 refine seq_do hA rfl rfl rfl (does_move rfl) ?_
 intro a hA
 refine seq_do (v := .bool false) hA rfl rfl rfl (does_bin rfl rfl (bin_neqB Try.underlying4)) ?_
 intro a hA
 refine seq_do (v := .bool false) hA rfl rfl rfl (does_pick rfl rfl rfl rfl) ?_
 intro a hA
 refine seq_end ?_
 refine hK34 _ _ ?_
 refine wp_cond_false (hA.ev rfl) ?_
 refine wp_skip ?_
 refine hK33 _ _ ?_
 refine wp_seq_k (fun K39 hK39 => ?_)
 refine wp_block ?_
 refine wp_seq_k (fun K40 hK40 => ?_)
 refine wp_region_lit ?_
 refine seq_do hA rfl rfl rfl (does_move rfl) ?_
 intro a hA
 refine seq_call hA rfl rfl rfl (enters_func rfl rfl (fun w => by kernel_rfl)) (rtwice_as (hR.below hM.bel) hl ht) ?_
 rintro _ w42 ⟨rfl, hb41⟩
 replace hM := hM.call hb41
 refine ⟨_, rfl, ?_⟩
 intro a hA
 refine seq_do hA rfl rfl rfl (does_assign rfl) ?_
 intro a hA
 refine seq_end ?_
 refine hK40 _ _ ?_
 refine wp_cond_false (hA.ev rfl) ?_
 refine wp_seq_k (fun K43 hK43 => ?_)
 refine wp_region_lit ?_
 refine seq_do hA rfl rfl rfl (does_move rfl) ?_
 intro a hA
 refine seq_do (v := .int .i64 (((l.length : Nat) : Int))) hA rfl rfl rfl (does_len Try.underlying22 rfl) ?_
 intro a hA
 refine seq_do (v := .bool false) hA rfl rfl rfl (does_bin rfl rfl (fun w => (bin_gtr w).trans (by rw [show (decide (64 < ((l.length : Nat) : Int))) = false from (decide_eq_false (by omega))]))) ?_
 intro a hA
 refine seq_do hA rfl rfl rfl (does_assign rfl) ?_
 intro a hA
 refine seq_end ?_
 refine hK43 _ _ ?_
 refine wp_cond_false (hA.ev rfl) ?_
 refine wp_seq_k (fun K44 hK44 => ?_)
 refine wp_region_lit ?_
 refine seq_do hA rfl rfl rfl (m_loadS hM EnG_isS_25 rfl 1 rfl (cs := [.slice so10 l.length ca11, .slice si12 q14.length ci13]) rfl rfl) ?_
 intro a hA
 refine seq_do hA rfl rfl rfl (does_move rfl) ?_
 intro a hA
 refine seq_do hA rfl rfl rfl (does_move rfl) ?_
 intro a hA
 refine seq_do hA rfl rfl rfl (does_move rfl) ?_
 intro a hA
 refine seq_call hA rfl rfl rfl (enters_func rfl rfl (fun w => by kernel_rfl)) (is_any (rc_own (hM.has 2 rfl)) (rc_own (hM.has 3 rfl)) (hR.below hM.bel) (hR.below hM.bel) (by omega) (snd_of h64 (by rw [hq15]; simp) hnd) (by rw [hq15, mem_map]; simp)) ?_
 rintro _ w46 ⟨rfl, hb45⟩
 replace hM := hM.call hb45
 refine ⟨_, rfl, ?_⟩
 intro a hA
 refine seq_do (v := .bool false) hA rfl rfl rfl (does_un rfl un_not) ?_
 intro a hA
 refine seq_do hA rfl rfl rfl (does_assign rfl) ?_
 intro a hA
 refine seq_end ?_
 refine hK44 _ _ ?_
 refine wp_cond_false (hA.ev rfl) ?_
 refine wp_skip ?_
 refine hK39 _ _ ?_
 refine wp_seq_k (fun K47 hK47 => ?_)
 refine wp_seq_k (fun K48 hK48 => ?_)
 refine wp_region_lit ?_
 refine seq_do hA rfl rfl rfl (does_move rfl) ?_
 intro a hA
 refine seq_do (v := .bool true) hA rfl rfl rfl (does_un rfl un_not) ?_
 intro a hA
 refine seq_end ?_
 refine hK48 _ _ ?_
 refine wp_cond_true (hA.ev rfl) ?_
 refine wp_seq_k (fun K49 hK49 => ?_)
 refine wp_region_lit ?_
 refine seq_do hA rfl rfl rfl (does_move rfl) ?_
 intro a hA
 refine seq_do (v := .bool true) hA rfl rfl rfl (does_bin rfl rfl (fun w => by kernel_rfl)) ?_
 intro a hA
 refine seq_do hA rfl rfl rfl (does_move rfl) ?_
 intro a hA
 refine seq_do hA rfl rfl rfl (does_move rfl) ?_
 intro a hA
 refine seq_do (v := .bool true) hA rfl rfl rfl (does_bin rfl rfl (fun w => by kernel_rfl)) ?_
 intro a hA
 refine seq_do (v := .bool true) hA rfl rfl rfl (does_pick rfl rfl rfl rfl) ?_
 intro a hA
 refine seq_do hA rfl rfl rfl (does_move rfl) ?_
 intro a hA
 refine seq_do hA rfl rfl rfl (does_move rfl) ?_
 intro a hA
 refine seq_do (v := .bool true) hA rfl rfl rfl (does_bin rfl rfl (fun w => by kernel_rfl)) ?_
 intro a hA
 refine seq_do (v := .bool true) hA rfl rfl rfl (does_pick rfl rfl rfl rfl) ?_
 intro a hA
 refine seq_do hA rfl rfl rfl (does_move rfl) ?_
 intro a hA
 refine seq_do hA rfl rfl rfl (does_move rfl) ?_
 intro a hA
 refine seq_do (v := .int .i64 0) hA rfl rfl rfl (does_len Try.underlying22 rfl) ?_
 intro a hA
 refine seq_do (v := .bool true) hA rfl rfl rfl (does_bin rfl rfl (fun w => by kernel_rfl)) ?_
 intro a hA
 refine seq_do (v := .bool true) hA rfl rfl rfl (does_pick rfl rfl rfl rfl) ?_
 intro a hA
 refine seq_do hA rfl rfl rfl (does_move rfl) ?_
 intro a hA
 refine seq_do hA rfl rfl rfl (does_move rfl) ?_
 intro a hA
 refine seq_do (v := .bool true) hA rfl rfl rfl (does_bin rfl rfl (fun w => by kernel_rfl)) ?_
 intro a hA
 refine seq_do (v := .bool true) hA rfl rfl rfl (does_pick rfl rfl rfl rfl) ?_
 intro a hA
 refine seq_do hA rfl rfl rfl (does_move rfl) ?_
 intro a hA
 refine seq_do (v := .pointer (some ⟨g24, 0, none⟩)) hA rfl rfl rfl (does_field EnG_fld_25_0 rfl rfl) ?_
 intro a hA
 refine seq_do hA rfl rfl rfl (m_load1 hM EnG_is1_22 rfl 0 rfl rfl) ?_
 intro a hA
 refine seq_do (v := .int .i64 0) hA rfl rfl rfl (does_len Try.underlying22 rfl) ?_
 intro a hA
 refine seq_do (v := .bool true) hA rfl rfl rfl (does_bin rfl rfl (fun w => by kernel_rfl)) ?_
 intro a hA
 refine seq_do (v := .bool true) hA rfl rfl rfl (does_pick rfl rfl rfl rfl) ?_
 intro a hA
 refine seq_do hA rfl rfl rfl (does_assign rfl) ?_
 intro a hA
 refine seq_end ?_
 refine hK49 _ _ ?_
 refine wp_ret ?_
 refine hret _ _ ?_
 refine ends (v := .bool true) hA rfl (.cons (res_tmp rfl) .nil) rfl ?_
 exact ⟨rfl, hM.bel⟩
set_option maxHeartbeats 1000000 in
theorem made_no_no {w : World} {so si : Option Addr} {ca ci : Nat} {l : List ByteArray} {bs : List Bool} (hR : Rs w so l) (hB : Rl w si bs) (hl : l.length ≤ 8796093021952) {sy : Option Addr} {cy : Nat} {ys : List ByteArray} (hY : Rs w sy ys) (hly : ys.length ≤ 8796093021952) {s : ByteArray} (hs : ∀ s ∈ l, s.size ≤ 281474976710656) (hsd : sndS l bs = true) (hany : (ys.any fun s => !decide (0 ≤ idxOfS l s)) = true) (hx : idxOfS l s < 0) : Calls Try.prog 3 #[.slice so l.length ca, .slice si bs.length ci, .slice sy ys.length cy, .string s] w fun e w' => e = .returned (.bool true) ∧ Below w.heap.size w w' := by
 have h64 := (snd_le hsd).1
 have hbl := (snd_le hsd).2.1
 have ht : twS l = false := by simpa [twS] using (snd_le hsd).2.2
 have hM : Mg w w ([]) := Mg.start w
 refine walk_of (l := [(0, .slice so l.length ca), (1, .slice si bs.length ci), (2, .slice sy ys.length cy), (3, .string s)]) Try.func3 rfl Try.ntmps3 rfl rfl ?_
 intro Q hret hnorm hP a hA
 refine wp_seq_k (fun K1 hK1 => ?_)
 refine wp_region_lit ?_
 refine seq_do hA rfl rfl rfl (does_assign rfl) ?_
 intro a hA
 refine seq_end ?_
 refine hK1 _ _ ?_
 refine wp_seq_k (fun K2 hK2 => ?_)
 refine wp_region_lit ?_
 refine seq_do hA rfl rfl rfl (does_move rfl) ?_
 intro a hA
 refine seq_do hA rfl rfl rfl (does_move rfl) ?_
 intro a hA
 refine seq_do (v := .agg #[.slice so l.length ca, .slice si bs.length ci]) hA rfl rfl rfl (does_build rfl (fun w => by kernel_rfl)) ?_
 intro a hA
 refine s_new (vs := [.slice none 0 0, .slice none 0 0]) (t := 25) hA hM rfl rfl rfl (fun g => .pointer (some ⟨g, 0, none⟩)) (does_alloc (z := .agg #[.slice none 0 0, .slice none 0 0]) (by kernel_rfl) rfl) (by decide) ?_
 intro g3 w4 hM a hA
 refine s_store (us := [.slice so l.length ca, .slice si bs.length ci]) (L' := (.obj g3 (.cells #[.slice so l.length ca, .slice si bs.length ci] 25) :: [])) hA hM rfl rfl (m_store rfl rfl rfl (by kernel_rfl) hM 0 rfl rfl rfl) 0 rfl rfl rfl ?_
 intro w5 hM
 refine seq_end ?_
 refine hK2 _ _ ?_
 refine wp_seq_k (fun K6 hK6 => ?_)
 refine wp_region_lit ?_
 refine seq_do hA rfl rfl rfl (does_move rfl) ?_
 intro a hA
 refine seq_do hA rfl rfl rfl (does_move rfl) ?_
 intro a hA
 refine seq_call hA rfl rfl rfl (enters_func rfl rfl (fun w => by kernel_rfl)) (rsound_as (hR.below hM.bel) (hB.below hM.bel) hsd) ?_
 rintro _ w8 ⟨rfl, hb7⟩
 replace hM := hM.call hb7
 refine ⟨_, rfl, ?_⟩
 intro a hA
 refine seq_do hA rfl rfl rfl (does_assign rfl) ?_
 intro a hA
 refine seq_end ?_
 refine hK6 _ _ ?_
 refine wp_seq_k (fun K9 hK9 => ?_)
 refine wp_region_lit ?_
 refine seq_do hA rfl rfl rfl (does_move rfl) ?_
 intro a hA
 refine seq_call hA rfl rfl rfl (enters_func rfl rfl (fun w => by kernel_rfl)) (new_okN (hR.below hM.bel) hs ht h64) ?_
 rintro _ w17 ⟨so10, ca11, si12, ci13, q14, hq15, rfl, hM16⟩
 replace hM : Mg w w17 (.row 9 1 (.slice so10 l.length ca11) l.length (strC l) :: .row 4 1 (.slice si12 q14.length ci13) q14.length (boolC q14) :: .obj g3 (.cells #[.slice so l.length ca, .slice si bs.length ci] 25) :: []) := (hM.both hM16 (noBld_cons (by simp) (noBld_quiet quietL_nil)) (noBld_cons (by simp) (noBld_cons (by simp) (noBld_quiet quietL_nil))))
 refine ⟨_, rfl, ?_⟩
 intro a hA
 refine seq_do hA rfl rfl rfl (does_move rfl) ?_
 intro a hA
 refine seq_do (v := .agg #[.slice so10 l.length ca11, .slice si12 q14.length ci13]) hA rfl rfl rfl (does_extract (vs := [.agg #[.slice so10 l.length ca11, .slice si12 q14.length ci13], .int .i64 0]) rfl rfl) ?_
 intro a hA
 refine seq_do (v := .int .i64 0) hA rfl rfl rfl (does_extract (vs := [.agg #[.slice so10 l.length ca11, .slice si12 q14.length ci13], .int .i64 0]) rfl rfl) ?_
 intro a hA
 refine s_new (vs := [.slice none 0 0, .slice none 0 0]) (t := 25) hA hM rfl rfl rfl (fun g => .pointer (some ⟨g, 0, none⟩)) (does_alloc (z := .agg #[.slice none 0 0, .slice none 0 0]) (by kernel_rfl) rfl) (by decide) ?_
 intro g18 w19 hM a hA
 refine s_store (us := [.slice so10 l.length ca11, .slice si12 q14.length ci13]) (L' := (.obj g18 (.cells #[.slice so10 l.length ca11, .slice si12 q14.length ci13] 25) :: .row 9 1 (.slice so10 l.length ca11) l.length (strC l) :: .row 4 1 (.slice si12 q14.length ci13) q14.length (boolC q14) :: .obj g3 (.cells #[.slice so l.length ca, .slice si bs.length ci] 25) :: [])) hA hM rfl rfl (m_store rfl rfl rfl (by kernel_rfl) hM 0 rfl rfl rfl) 0 rfl rfl rfl ?_
 intro w20 hM
 refine seq_do hA rfl rfl rfl (does_assign rfl) ?_
 intro a hA
 refine seq_end ?_
 refine hK9 _ _ ?_
 refine wp_seq_k (fun K21 hK21 => ?_)
 refine wp_region_lit ?_
 refine seq_do hA rfl rfl rfl (m_loadS hM EnG_isS_25 rfl 3 rfl (cs := [.slice so l.length ca, .slice si bs.length ci]) rfl rfl) ?_
 intro a hA
 refine seq_do hA rfl rfl rfl (does_move rfl) ?_
 intro a hA
 refine seq_call hA rfl rfl rfl (enters_func rfl rfl (fun w => by kernel_rfl)) (of_none (hR.below hM.bel) (hB.below hM.bel) (hY.below hM.bel) hly hsd hany) ?_
 rintro _ w23 ⟨rfl, hb22⟩
 replace hM := hM.call hb22
 refine ⟨_, rfl, ?_⟩
 intro a hA
 refine seq_do hA rfl rfl rfl (does_move rfl) ?_
 intro a hA
 refine seq_do (v := .agg #[.slice none 0 0, .slice none 0 0]) hA rfl rfl rfl (does_extract (vs := [.agg #[.slice none 0 0, .slice none 0 0], .int .i64 7]) rfl rfl) ?_
 intro a hA
 refine seq_do (v := .int .i64 7) hA rfl rfl rfl (does_extract (vs := [.agg #[.slice none 0 0, .slice none 0 0], .int .i64 7]) rfl rfl) ?_
 intro a hA
 refine s_new (vs := [.slice none 0 0, .slice none 0 0]) (t := 25) hA hM rfl rfl rfl (fun g => .pointer (some ⟨g, 0, none⟩)) (does_alloc (z := .agg #[.slice none 0 0, .slice none 0 0]) (by kernel_rfl) rfl) (by decide) ?_
 intro g24 w25 hM a hA
 refine s_store (us := [.slice none 0 0, .slice none 0 0]) (L' := (.obj g24 (.cells #[.slice none 0 0, .slice none 0 0] 25) :: .obj g18 (.cells #[.slice so10 l.length ca11, .slice si12 q14.length ci13] 25) :: .row 9 1 (.slice so10 l.length ca11) l.length (strC l) :: .row 4 1 (.slice si12 q14.length ci13) q14.length (boolC q14) :: .obj g3 (.cells #[.slice so l.length ca, .slice si bs.length ci] 25) :: [])) hA hM rfl rfl (m_store rfl rfl rfl (by kernel_rfl) hM 0 rfl rfl rfl) 0 rfl rfl rfl ?_
 intro w26 hM
 refine seq_do hA rfl rfl rfl (does_assign rfl) ?_
 intro a hA
 refine seq_end ?_
 refine hK21 _ _ ?_
 refine wp_seq_k (fun K27 hK27 => ?_)
 refine wp_region_lit ?_
 refine seq_do hA rfl rfl rfl (m_loadS hM EnG_isS_25 rfl 4 rfl (cs := [.slice so l.length ca, .slice si bs.length ci]) rfl rfl) ?_
 intro a hA
 refine seq_call hA rfl rfl rfl (enters_func rfl rfl (fun w => by kernel_rfl)) (list_ok (hR.below hM.bel) (hB.below hM.bel) hs hsd) ?_
 rintro _ w31 ⟨so28, ca29, rfl, hM30⟩
 replace hM : Mg w w31 (.row 9 1 (.slice so28 ((memS l bs).length) ca29) ((memS l bs).length) (strC (memS l bs)) :: .obj g24 (.cells #[.slice none 0 0, .slice none 0 0] 25) :: .obj g18 (.cells #[.slice so10 l.length ca11, .slice si12 q14.length ci13] 25) :: .row 9 1 (.slice so10 l.length ca11) l.length (strC l) :: .row 4 1 (.slice si12 q14.length ci13) q14.length (boolC q14) :: .obj g3 (.cells #[.slice so l.length ca, .slice si bs.length ci] 25) :: []) := (hM.both hM30 (noBld_cons (by simp) (noBld_cons (by simp) (noBld_cons (by simp) (noBld_cons (by simp) (noBld_cons (by simp) (noBld_quiet quietL_nil)))))) (noBld_cons (by simp) (noBld_quiet quietL_nil)))
 refine ⟨_, rfl, ?_⟩
 intro a hA
 refine seq_do hA rfl rfl rfl (does_move rfl) ?_
 intro a hA
 refine seq_do (v := .slice so28 ((memS l bs).length) ca29) hA rfl rfl rfl (does_extract (vs := [.slice so28 ((memS l bs).length) ca29, .int .i64 0]) rfl rfl) ?_
 intro a hA
 refine seq_do (v := .int .i64 0) hA rfl rfl rfl (does_extract (vs := [.slice so28 ((memS l bs).length) ca29, .int .i64 0]) rfl rfl) ?_
 intro a hA
 refine seq_do hA rfl rfl rfl (does_assign rfl) ?_
 intro a hA
 refine seq_do hA rfl rfl rfl (does_assign rfl) ?_
 intro a hA
 refine seq_end ?_
 refine hK27 _ _ ?_
 refine wp_seq_k (fun K32 hK32 => ?_)
 refine wp_region_lit ?_
 refine seq_do hA rfl rfl rfl (m_loadS hM EnG_isS_25 rfl 5 rfl (cs := [.slice so l.length ca, .slice si bs.length ci]) rfl rfl) ?_
 intro a hA
 refine seq_do hA rfl rfl rfl (does_move rfl) ?_
 intro a hA
 refine seq_call hA rfl rfl rfl (enters_func rfl rfl (fun w => by kernel_rfl)) (index_none (hR.below hM.bel) (hB.below hM.bel) hsd hx) ?_
 rintro _ w34 ⟨rfl, hb33⟩
 replace hM := hM.call hb33
 refine ⟨_, rfl, ?_⟩
 intro a hA
 refine seq_do hA rfl rfl rfl (does_move rfl) ?_
 intro a hA
 refine seq_do (v := .int .i64 0) hA rfl rfl rfl (does_extract (vs := [.int .i64 0, .int .i64 7]) rfl rfl) ?_
 intro a hA
 refine seq_do (v := .int .i64 7) hA rfl rfl rfl (does_extract (vs := [.int .i64 0, .int .i64 7]) rfl rfl) ?_
 intro a hA
 refine seq_do hA rfl rfl rfl (does_assign rfl) ?_
 intro a hA
 refine seq_do hA rfl rfl rfl (does_assign rfl) ?_
 intro a hA
 refine seq_end ?_
 refine hK32 _ _ ?_
 refine wp_seq_k (fun K35 hK35 => ?_)
 refine wp_seq_k (fun K36 hK36 => ?_)
 refine wp_region_lit ?_
 refine seq_call hA rfl rfl rfl (enters_func rfl rfl (fun w => by kernel_rfl)) (awake_any) ?_
 rintro _ w38 ⟨rfl, hb37⟩
 replace hM := hM.call hb37
 refine ⟨_, rfl, ?_⟩
 intro a hA
 refine seq_do (v := .bool false) hA rfl rfl rfl (does_un rfl un_not) ?_
 intro a hA
 refine seq_do hA rfl rfl rfl (does_move rfl) ?_
 intro a hA
 refine seq_do hA rfl rfl rfl (m_loadS hM EnG_isS_25 rfl 5 rfl (cs := [.slice so l.length ca, .slice si bs.length ci]) rfl rfl) ?_
 intro a hA
 refine seq_call hA rfl rfl rfl (enters_func rfl rfl (fun w => by kernel_rfl)) (sound_as (hR.below hM.bel) (hB.below hM.bel) hsd) ?_
 rintro _ w40 ⟨rfl, hb39⟩
 replace hM := hM.call hb39
 refine ⟨_, rfl, ?_⟩
 intro a hA
 refine seq_do hA rfl rfl rfl (does_move rfl) ?_
 intro a hA
 refine seq_do (v := .bool false) hA rfl rfl rfl (does_bin rfl rfl (bin_neqB Try.underlying4)) ?_
 intro a hA
 refine seq_do (v := .bool false) hA rfl rfl rfl (does_pick rfl rfl rfl rfl) ?_
 intro a hA
 refine seq_end ?_
 refine hK36 _ _ ?_
 refine wp_cond_false (hA.ev rfl) ?_
 refine wp_skip ?_
 refine hK35 _ _ ?_
 refine wp_seq_k (fun K41 hK41 => ?_)
 refine wp_block ?_
 refine wp_seq_k (fun K42 hK42 => ?_)
 refine wp_region_lit ?_
 refine seq_do hA rfl rfl rfl (does_move rfl) ?_
 intro a hA
 refine seq_call hA rfl rfl rfl (enters_func rfl rfl (fun w => by kernel_rfl)) (rtwice_as (hR.below hM.bel) hl ht) ?_
 rintro _ w44 ⟨rfl, hb43⟩
 replace hM := hM.call hb43
 refine ⟨_, rfl, ?_⟩
 intro a hA
 refine seq_do hA rfl rfl rfl (does_assign rfl) ?_
 intro a hA
 refine seq_end ?_
 refine hK42 _ _ ?_
 refine wp_cond_false (hA.ev rfl) ?_
 refine wp_seq_k (fun K45 hK45 => ?_)
 refine wp_region_lit ?_
 refine seq_do hA rfl rfl rfl (does_move rfl) ?_
 intro a hA
 refine seq_do (v := .int .i64 (((l.length : Nat) : Int))) hA rfl rfl rfl (does_len Try.underlying22 rfl) ?_
 intro a hA
 refine seq_do (v := .bool false) hA rfl rfl rfl (does_bin rfl rfl (fun w => (bin_gtr w).trans (by rw [show (decide (64 < ((l.length : Nat) : Int))) = false from (decide_eq_false (by omega))]))) ?_
 intro a hA
 refine seq_do hA rfl rfl rfl (does_assign rfl) ?_
 intro a hA
 refine seq_end ?_
 refine hK45 _ _ ?_
 refine wp_cond_false (hA.ev rfl) ?_
 refine wp_seq_k (fun K46 hK46 => ?_)
 refine wp_region_lit ?_
 refine seq_do hA rfl rfl rfl (m_loadS hM EnG_isS_25 rfl 2 rfl (cs := [.slice so10 l.length ca11, .slice si12 q14.length ci13]) rfl rfl) ?_
 intro a hA
 refine seq_do hA rfl rfl rfl (does_move rfl) ?_
 intro a hA
 refine seq_do hA rfl rfl rfl (does_move rfl) ?_
 intro a hA
 refine seq_do hA rfl rfl rfl (does_move rfl) ?_
 intro a hA
 refine seq_call hA rfl rfl rfl (enters_func rfl rfl (fun w => by kernel_rfl)) (is_any (rc_own (hM.has 3 rfl)) (rc_own (hM.has 4 rfl)) (hR.below hM.bel) (hR.below hM.bel) (by omega) (snd_map hsd hq15) (by rw [hq15, mem_map]; simp)) ?_
 rintro _ w48 ⟨rfl, hb47⟩
 replace hM := hM.call hb47
 refine ⟨_, rfl, ?_⟩
 intro a hA
 refine seq_do (v := .bool false) hA rfl rfl rfl (does_un rfl un_not) ?_
 intro a hA
 refine seq_do hA rfl rfl rfl (does_assign rfl) ?_
 intro a hA
 refine seq_end ?_
 refine hK46 _ _ ?_
 refine wp_cond_false (hA.ev rfl) ?_
 refine wp_skip ?_
 refine hK41 _ _ ?_
 refine wp_seq_k (fun K49 hK49 => ?_)
 refine wp_seq_k (fun K50 hK50 => ?_)
 refine wp_region_lit ?_
 refine seq_do hA rfl rfl rfl (does_move rfl) ?_
 intro a hA
 refine seq_do (v := .bool false) hA rfl rfl rfl (does_un rfl un_not) ?_
 intro a hA
 refine seq_end ?_
 refine hK50 _ _ ?_
 refine wp_cond_false (hA.ev rfl) ?_
 refine wp_skip ?_
 refine hK49 _ _ ?_
 refine wp_seq_k (fun K51 hK51 => ?_)
 refine wp_region_lit ?_
 refine seq_do hA rfl rfl rfl (does_assign rfl) ?_
 intro a hA
 refine seq_end ?_
 refine hK51 _ _ ?_
 refine wp_seq_k (fun K52 hK52 => ?_)
 refine wp_region_lit ?_
 refine s_litE (e := 9) (sz := 1) (m := 0) (vs := strC []) hA hM rfl rfl rfl (does_buildSlice rfl (by kernel_rfl)) rfl rfl (.inl (by decide)) ?_
 intro g53 w54 hM a hA
 refine seq_do hA rfl rfl rfl (does_assign rfl) ?_
 intro a hA
 refine seq_end ?_
 refine hK52 _ _ ?_
 refine wp_seq_k (fun K55 hK55 => ?_)
 refine wp_seq_k (fun K56 hK56 => ?_)
 refine wp_region_lit ?_
 refine seq_do hA rfl rfl rfl (does_assign rfl) ?_
 intro a hA
 refine seq_end ?_
 refine hK56 _ _ ?_
 refine wp_block ?_
 refine wp_loop_n (fun m_ a w1 => ∃ (i : Nat) (kf : Bool), m_ = 1 + (ys.length - i) ∧ (i ≤ ys.length ∧ kf = (ys.take i).all (fun s => decide (0 ≤ idxOfS l s))) ∧ Sl a 197 [(0, .slice so l.length ca), (1, .slice si bs.length ci), (2, .slice sy ys.length cy), (3, .string s), (8, .bool false), (9, .pointer (some ⟨g3, 0, none⟩)), (10, .bool true), (11, .pointer (some ⟨g18, 0, none⟩)), (12, .int .i64 0), (13, .pointer (some ⟨g24, 0, none⟩)), (14, .int .i64 7), (15, .slice so28 ((memS l bs).length) ca29), (16, .int .i64 0), (17, .int .i64 0), (18, .int .i64 7), (19, .bool kf), (20, .slice (some ⟨g53, 0, none⟩) 0 0), (21, .int .i64 (((i : Nat) : Int))), (24, .slice so l.length ca), (25, .slice si bs.length ci), (26, .agg #[.slice so l.length ca, .slice si bs.length ci]), (27, .slice so l.length ca), (28, .slice si bs.length ci), (29, .bool true), (30, .tuple #[.agg #[.slice so10 l.length ca11, .slice si12 q14.length ci13], .int .i64 0]), (31, .slice so l.length ca), (32, .tuple #[.agg #[.slice so10 l.length ca11, .slice si12 q14.length ci13], .int .i64 0]), (33, .agg #[.slice so10 l.length ca11, .slice si12 q14.length ci13]), (34, .int .i64 0), (35, .tuple #[.agg #[.slice none 0 0, .slice none 0 0], .int .i64 7]), (36, .agg #[.slice so l.length ca, .slice si bs.length ci]), (37, .slice sy ys.length cy), (38, .tuple #[.agg #[.slice none 0 0, .slice none 0 0], .int .i64 7]), (39, .agg #[.slice none 0 0, .slice none 0 0]), (40, .int .i64 7), (41, .tuple #[.slice so28 ((memS l bs).length) ca29, .int .i64 0]), (42, .agg #[.slice so l.length ca, .slice si bs.length ci]), (43, .tuple #[.slice so28 ((memS l bs).length) ca29, .int .i64 0]), (44, .slice so28 ((memS l bs).length) ca29), (45, .int .i64 0), (46, .tuple #[.int .i64 0, .int .i64 7]), (47, .agg #[.slice so l.length ca, .slice si bs.length ci]), (48, .string s), (49, .tuple #[.int .i64 0, .int .i64 7]), (50, .int .i64 0), (51, .int .i64 7), (52, .bool true), (53, .bool false), (54, .bool false), (55, .agg #[.slice so l.length ca, .slice si bs.length ci]), (56, .bool true), (57, .bool true), (58, .bool false), (59, .bool false), (60, .bool false), (61, .slice so l.length ca), (62, .bool false), (65, .bool false), (66, .slice so l.length ca), (67, .int .i64 (((l.length : Nat) : Int))), (68, .bool false), (71, .bool false), (72, .agg #[.slice so10 l.length ca11, .slice si12 q14.length ci13]), (73, .int .i64 0), (74, .slice so l.length ca), (75, .slice so l.length ca), (76, .bool true), (77, .bool false), (78, .bool true), (79, .bool false), (105, .slice (some ⟨g53, 0, none⟩) 0 0)] ∧ Mg w w1 (.row 9 1 (.slice (some ⟨g53, 0, none⟩) 0 0) 0 (strC []) :: .row 9 1 (.slice so28 ((memS l bs).length) ca29) ((memS l bs).length) (strC (memS l bs)) :: .obj g24 (.cells #[.slice none 0 0, .slice none 0 0] 25) :: .obj g18 (.cells #[.slice so10 l.length ca11, .slice si12 q14.length ci13] 25) :: .row 9 1 (.slice so10 l.length ca11) l.length (strC l) :: .row 4 1 (.slice si12 q14.length ci13) q14.length (boolC q14) :: .obj g3 (.cells #[.slice so l.length ca, .slice si bs.length ci] 25) :: [])) _ ⟨0, true, rfl, ⟨Nat.zero_le _, rfl⟩, hA.keep _ ⟨rfl, rfl, rfl, rfl, rfl, rfl, rfl, rfl, rfl, rfl, rfl, rfl, rfl, rfl, rfl, rfl, rfl, rfl, rfl, rfl, rfl, rfl, rfl, rfl, rfl, rfl, rfl, rfl, rfl, rfl, rfl, rfl, rfl, rfl, rfl, rfl, rfl, rfl, rfl, rfl, rfl, rfl, rfl, rfl, rfl, rfl, rfl, rfl, rfl, rfl, rfl, rfl, rfl, rfl, rfl, rfl, rfl, rfl, rfl, rfl, rfl, rfl, rfl, rfl, rfl, rfl, rfl, rfl, rfl, rfl, rfl, trivial⟩, hM⟩ ?_
 clear hM hA
 rintro m_ a w57 ⟨i, kf, rfl, hinv59, hA, hM⟩ K58 hK58
 obtain ⟨hi0, hkf⟩ := hinv59
 refine wp_seq_k (fun K60 hK60 => ?_)
 refine wp_seq_k (fun K61 hK61 => ?_)
 refine wp_region_lit ?_
 refine seq_do hA rfl rfl rfl (does_move rfl) ?_
 intro a hA
 refine seq_do hA rfl rfl rfl (does_move rfl) ?_
 intro a hA
 refine seq_do (v := .int .i64 (((ys.length : Nat) : Int))) hA rfl rfl rfl (does_len Try.underlying22 rfl) ?_
 intro a hA
 refine seq_do (v := .bool (decide (((i : Nat) : Int) < ((ys.length : Nat) : Int)))) hA rfl rfl rfl (does_bin rfl rfl bin_lss) ?_
 intro a hA
 refine seq_end ?_
 refine hK61 _ _ ?_
 refine wp_cond_split (t := decide (((i : Nat) : Int) < ((ys.length : Nat) : Int))) (hA.ev rfl) (fun hc62 => ?_) (fun hc62 => ?_)
 · have hc62' := of_decide_eq_true hc62
   refine wp_skip ?_
   refine hK60 _ _ ?_
   refine wp_seq_k (fun K63 hK63 => ?_)
   refine wp_block ?_
   refine wp_region_lit ?_
   refine seq_do hA rfl rfl rfl (does_move rfl) ?_
   intro a hA
   refine seq_do hA rfl rfl rfl (does_move rfl) ?_
   intro a hA
   rcases kf with _ | _
   · refine seq_skip hA rfl rfl rfl ?_
     intro a hA
     refine seq_skip hA rfl rfl rfl ?_
     intro a hA
     refine seq_skip hA rfl rfl rfl ?_
     intro a hA
     refine seq_skip hA rfl rfl rfl ?_
     intro a hA
     refine seq_skip hA rfl rfl rfl ?_
     intro a hA
     refine seq_skip hA rfl rfl rfl ?_
     intro a hA
     refine seq_skip hA rfl rfl rfl ?_
     intro a hA
     refine seq_do (v := .bool false) hA rfl rfl rfl (does_pick rfl rfl rfl rfl) ?_
     intro a hA
     refine seq_do hA rfl rfl rfl (does_assign rfl) ?_
     intro a hA
     refine seq_end ?_
     refine hK63 _ _ ?_
     refine wp_region_lit ?_
     refine seq_do hA rfl rfl rfl (does_move rfl) ?_
     intro a hA
     refine seq_do (v := .int .i64 (((i + 1 : Nat) : Int))) hA rfl rfl rfl (does_bin rfl rfl (ar_add ((in_i64 (by omega) (by omega)).trans (by omega)))) ?_
     intro a hA
     refine seq_do hA rfl rfl rfl (does_assign rfl) ?_
     intro a hA
     refine seq_end ?_
     refine hK58 _ _ _ (by omega) ⟨i + 1, false, rfl, ⟨by omega, by rw [List.take_add_one, List.all_append, ← hkf]; rfl⟩, hA.keep _ ⟨rfl, rfl, rfl, rfl, rfl, rfl, rfl, rfl, rfl, rfl, rfl, rfl, rfl, rfl, rfl, rfl, rfl, rfl, rfl, rfl, rfl, rfl, rfl, rfl, rfl, rfl, rfl, rfl, rfl, rfl, rfl, rfl, rfl, rfl, rfl, rfl, rfl, rfl, rfl, rfl, rfl, rfl, rfl, rfl, rfl, rfl, rfl, rfl, rfl, rfl, rfl, rfl, rfl, rfl, rfl, rfl, rfl, rfl, rfl, rfl, rfl, rfl, rfl, rfl, rfl, rfl, rfl, rfl, rfl, rfl, rfl, trivial⟩, hM⟩
   · refine seq_do hA rfl rfl rfl (does_move rfl) ?_
     intro a hA
     refine seq_do hA rfl rfl rfl (does_move rfl) ?_
     intro a hA
     refine seq_do hA rfl rfl rfl (does_move rfl) ?_
     intro a hA
     obtain ⟨bx64, ox65, sx66, hs67, hc68, hi69⟩ := hY.at_ (i := i) (by omega)
     refine seq_do (v := .pointer (some ⟨bx64, ox65 + i, none⟩)) hA rfl rfl rfl (does_indexRow (k := i) Try.underlying22 (by kernel_rfl) rfl rfl (by first | rfl | omega) hs67 (by omega)) ?_
     intro a hA
     refine seq_do hA rfl rfl rfl (m_loadX hM hc68 EnG_is1_9 rfl) ?_
     intro a hA
     refine seq_call hA rfl rfl rfl (enters_func rfl rfl (fun w => by kernel_rfl)) (place_any (hR.below hM.bel) hl) ?_
     rintro _ w71 ⟨rfl, hb70⟩
     replace hM := hM.call hb70
     refine ⟨_, rfl, ?_⟩
     intro a hA
     refine seq_do (v := .bool (decide (0 ≤ idxOfS l sx66))) hA rfl rfl rfl (does_bin rfl rfl bin_geq) ?_
     intro a hA
     refine seq_do (v := .bool (decide (0 ≤ idxOfS l sx66))) hA rfl rfl rfl (does_pick rfl rfl rfl rfl) ?_
     intro a hA
     refine seq_do hA rfl rfl rfl (does_assign rfl) ?_
     intro a hA
     refine seq_end ?_
     refine hK63 _ _ ?_
     refine wp_region_lit ?_
     refine seq_do hA rfl rfl rfl (does_move rfl) ?_
     intro a hA
     refine seq_do (v := .int .i64 (((i + 1 : Nat) : Int))) hA rfl rfl rfl (does_bin rfl rfl (ar_add ((in_i64 (by omega) (by omega)).trans (by omega)))) ?_
     intro a hA
     refine seq_do hA rfl rfl rfl (does_assign rfl) ?_
     intro a hA
     refine seq_end ?_
     refine hK58 _ _ _ (by omega) ⟨i + 1, decide (0 ≤ idxOfS l sx66), rfl, ⟨by omega, by rw [List.take_add_one, hi69, List.all_append, ← hkf]; simp⟩, hA.keep _ ⟨rfl, rfl, rfl, rfl, rfl, rfl, rfl, rfl, rfl, rfl, rfl, rfl, rfl, rfl, rfl, rfl, rfl, rfl, rfl, rfl, rfl, rfl, rfl, rfl, rfl, rfl, rfl, rfl, rfl, rfl, rfl, rfl, rfl, rfl, rfl, rfl, rfl, rfl, rfl, rfl, rfl, rfl, rfl, rfl, rfl, rfl, rfl, rfl, rfl, rfl, rfl, rfl, rfl, rfl, rfl, rfl, rfl, rfl, rfl, rfl, rfl, rfl, rfl, rfl, rfl, rfl, rfl, rfl, rfl, rfl, rfl, trivial⟩, hM⟩
 · have hc62' := of_decide_eq_false hc62
   refine wp_exit ?_
   refine hK55 _ _ ?_
   refine wp_seq_k (fun K72 hK72 => ?_)
   refine wp_seq_k (fun K73 hK73 => ?_)
   obtain rfl : kf = false := by rw [hkf, List.take_of_length_le (show ys.length ≤ i by omega), all_any, hany]; rfl
   refine wp_region_lit ?_
   refine seq_do hA rfl rfl rfl (does_assign rfl) ?_
   intro a hA
   refine seq_end ?_
   refine hK73 _ _ ?_
   refine wp_block ?_
   refine wp_loop_n (fun m_ a w1 => ∃ (j : Nat) (xs : List ByteArray) (so_ : Option Addr) (ca_ : Nat), m_ = 1 + (l.length - j) ∧ (j ≤ l.length ∧ xs = (l.take j).filter (fun s => decide (0 ≤ idxOfS ys s))) ∧ Sl a 197 [(0, .slice so l.length ca), (1, .slice si bs.length ci), (2, .slice sy ys.length cy), (3, .string s), (8, .bool false), (9, .pointer (some ⟨g3, 0, none⟩)), (10, .bool true), (11, .pointer (some ⟨g18, 0, none⟩)), (12, .int .i64 0), (13, .pointer (some ⟨g24, 0, none⟩)), (14, .int .i64 7), (15, .slice so28 ((memS l bs).length) ca29), (16, .int .i64 0), (17, .int .i64 0), (18, .int .i64 7), (19, .bool false), (20, .slice so_ xs.length ca_), (21, .int .i64 (((i : Nat) : Int))), (22, .int .i64 (((j : Nat) : Int))), (24, .slice so l.length ca), (25, .slice si bs.length ci), (26, .agg #[.slice so l.length ca, .slice si bs.length ci]), (27, .slice so l.length ca), (28, .slice si bs.length ci), (29, .bool true), (30, .tuple #[.agg #[.slice so10 l.length ca11, .slice si12 q14.length ci13], .int .i64 0]), (31, .slice so l.length ca), (32, .tuple #[.agg #[.slice so10 l.length ca11, .slice si12 q14.length ci13], .int .i64 0]), (33, .agg #[.slice so10 l.length ca11, .slice si12 q14.length ci13]), (34, .int .i64 0), (35, .tuple #[.agg #[.slice none 0 0, .slice none 0 0], .int .i64 7]), (36, .agg #[.slice so l.length ca, .slice si bs.length ci]), (37, .slice sy ys.length cy), (38, .tuple #[.agg #[.slice none 0 0, .slice none 0 0], .int .i64 7]), (39, .agg #[.slice none 0 0, .slice none 0 0]), (40, .int .i64 7), (41, .tuple #[.slice so28 ((memS l bs).length) ca29, .int .i64 0]), (42, .agg #[.slice so l.length ca, .slice si bs.length ci]), (43, .tuple #[.slice so28 ((memS l bs).length) ca29, .int .i64 0]), (44, .slice so28 ((memS l bs).length) ca29), (45, .int .i64 0), (46, .tuple #[.int .i64 0, .int .i64 7]), (47, .agg #[.slice so l.length ca, .slice si bs.length ci]), (48, .string s), (49, .tuple #[.int .i64 0, .int .i64 7]), (50, .int .i64 0), (51, .int .i64 7), (52, .bool true), (53, .bool false), (54, .bool false), (55, .agg #[.slice so l.length ca, .slice si bs.length ci]), (56, .bool true), (57, .bool true), (58, .bool false), (59, .bool false), (60, .bool false), (61, .slice so l.length ca), (62, .bool false), (65, .bool false), (66, .slice so l.length ca), (67, .int .i64 (((l.length : Nat) : Int))), (68, .bool false), (71, .bool false), (72, .agg #[.slice so10 l.length ca11, .slice si12 q14.length ci13]), (73, .int .i64 0), (74, .slice so l.length ca), (75, .slice so l.length ca), (76, .bool true), (77, .bool false), (78, .bool true), (79, .bool false), (105, .slice (some ⟨g53, 0, none⟩) 0 0), (106, .int .i64 (((i : Nat) : Int))), (107, .slice sy ys.length cy), (108, .int .i64 (((ys.length : Nat) : Int))), (109, .bool (decide (((i : Nat) : Int) < ((ys.length : Nat) : Int))))] ∧ Mg w w1 (.row 9 1 (.slice so_ xs.length ca_) xs.length (strC xs) :: .row 9 1 (.slice so28 ((memS l bs).length) ca29) ((memS l bs).length) (strC (memS l bs)) :: .obj g24 (.cells #[.slice none 0 0, .slice none 0 0] 25) :: .obj g18 (.cells #[.slice so10 l.length ca11, .slice si12 q14.length ci13] 25) :: .row 9 1 (.slice so10 l.length ca11) l.length (strC l) :: .row 4 1 (.slice si12 q14.length ci13) q14.length (boolC q14) :: .obj g3 (.cells #[.slice so l.length ca, .slice si bs.length ci] 25) :: [])) _ ⟨0, [], _, 0, rfl, ⟨Nat.zero_le _, rfl⟩, hA.keep _ ⟨rfl, rfl, rfl, rfl, rfl, rfl, rfl, rfl, rfl, rfl, rfl, rfl, rfl, rfl, rfl, rfl, rfl, rfl, rfl, rfl, rfl, rfl, rfl, rfl, rfl, rfl, rfl, rfl, rfl, rfl, rfl, rfl, rfl, rfl, rfl, rfl, rfl, rfl, rfl, rfl, rfl, rfl, rfl, rfl, rfl, rfl, rfl, rfl, rfl, rfl, rfl, rfl, rfl, rfl, rfl, rfl, rfl, rfl, rfl, rfl, rfl, rfl, rfl, rfl, rfl, rfl, rfl, rfl, rfl, rfl, rfl, rfl, rfl, rfl, rfl, rfl, trivial⟩, hM⟩ ?_
   clear hM hA
   rintro m_ a w74 ⟨j, xs, so_, ca_, rfl, hinv76, hA, hM⟩ K75 hK75
   obtain ⟨hj0, hxs⟩ := hinv76
   have hLxs : xs.length ≤ j := by rw [hxs]; exact fil_len
   refine wp_seq_k (fun K77 hK77 => ?_)
   refine wp_seq_k (fun K78 hK78 => ?_)
   refine wp_region_lit ?_
   refine seq_do hA rfl rfl rfl (does_move rfl) ?_
   intro a hA
   refine seq_do hA rfl rfl rfl (does_move rfl) ?_
   intro a hA
   refine seq_do (v := .int .i64 (((l.length : Nat) : Int))) hA rfl rfl rfl (does_len Try.underlying22 rfl) ?_
   intro a hA
   refine seq_do (v := .bool (decide (((j : Nat) : Int) < ((l.length : Nat) : Int)))) hA rfl rfl rfl (does_bin rfl rfl bin_lss) ?_
   intro a hA
   refine seq_end ?_
   refine hK78 _ _ ?_
   refine wp_cond_split (t := decide (((j : Nat) : Int) < ((l.length : Nat) : Int))) (hA.ev rfl) (fun hc79 => ?_) (fun hc79 => ?_)
   · have hc79' := of_decide_eq_true hc79
     refine wp_skip ?_
     refine hK77 _ _ ?_
     refine wp_seq_k (fun K80 hK80 => ?_)
     refine wp_block ?_
     refine wp_seq_k (fun K81 hK81 => ?_)
     refine wp_region_lit ?_
     refine seq_do hA rfl rfl rfl (does_move rfl) ?_
     intro a hA
     refine seq_do hA rfl rfl rfl (does_move rfl) ?_
     intro a hA
     refine seq_do hA rfl rfl rfl (does_move rfl) ?_
     intro a hA
     obtain ⟨bx82, ox83, sx84, hs85, hc86, hi87⟩ := hR.at_ (i := j) (by omega)
     refine seq_do (v := .pointer (some ⟨bx82, ox83 + j, none⟩)) hA rfl rfl rfl (does_indexRow (k := j) Try.underlying22 (by kernel_rfl) rfl rfl (by first | rfl | omega) hs85 (by omega)) ?_
     intro a hA
     refine seq_do hA rfl rfl rfl (m_loadX hM hc86 EnG_is1_9 rfl) ?_
     intro a hA
     refine seq_call hA rfl rfl rfl (enters_func rfl rfl (fun w => by kernel_rfl)) (place_any (hY.below hM.bel) hly) ?_
     rintro _ w89 ⟨rfl, hb88⟩
     replace hM := hM.call hb88
     refine ⟨_, rfl, ?_⟩
     intro a hA
     rcases Bool.eq_false_or_eq_true (decide (0 ≤ idxOfS ys sx84)) with hb90 | hb90
     · have hb90' := of_decide_eq_true hb90
       refine seq_do (v := .bool true) hA rfl rfl rfl (does_bin rfl rfl (fun w => (bin_geq w).trans (by rw [hb90]))) ?_
       intro a hA
       refine seq_end ?_
       refine hK81 _ _ ?_
       refine wp_cond_true (hA.ev rfl) ?_
       refine wp_region_lit ?_
       refine seq_do hA rfl rfl rfl (does_move rfl) ?_
       intro a hA
       refine seq_do hA rfl rfl rfl (does_move rfl) ?_
       intro a hA
       refine seq_do hA rfl rfl rfl (does_move rfl) ?_
       intro a hA
       refine seq_do (v := .pointer (some ⟨bx82, ox83 + j, none⟩)) hA rfl rfl rfl (does_indexRow (k := j) Try.underlying22 (by kernel_rfl) rfl rfl (by first | rfl | omega) hs85 (by omega)) ?_
       intro a hA
       refine seq_do hA rfl rfl rfl (m_loadX hM hc86 EnG_is1_9 rfl) ?_
       intro a hA
       refine s_litE (e := 9) (sz := 1) (m := 1) (vs := strC [sx84]) hA hM rfl rfl rfl (does_buildSlice rfl (by kernel_rfl)) rfl rfl (.inl (by decide)) ?_
       intro g91 w92 hM a hA
       refine s_appendE (e := 9) (sz := 1) (k := 1) (q := xs.length) (m := 1) (xs := strC xs) (news := strC [sx84]) (L' := fun v93 => (.row 9 1 (.slice (some ⟨g91, 0, none⟩) 1 1) 1 (strC [sx84]) :: .row 9 1 (v93) (xs.length + 1) (strC xs ++ strC [sx84]) :: .row 9 1 (.slice so28 ((memS l bs).length) ca29) ((memS l bs).length) (strC (memS l bs)) :: .obj g24 (.cells #[.slice none 0 0, .slice none 0 0] 25) :: .obj g18 (.cells #[.slice so10 l.length ca11, .slice si12 q14.length ci13] 25) :: .row 9 1 (.slice so10 l.length ca11) l.length (strC l) :: .row 4 1 (.slice si12 q14.length ci13) q14.length (boolC q14) :: .obj g3 (.cells #[.slice so l.length ca, .slice si bs.length ci] 25) :: [])) hA rfl rfl rfl (m_appX (z := .string ⟨#[]⟩) (sz := 1) (by_ := 16) Try.underlying22 (by kernel_rfl) rfl rfl rfl hM 1 rfl rfl rfl (strC_n [sx84]) (rc_own (hM.has 0 rfl)) (strC_one [sx84]) (by first | omega | (simp only [List.length_nil]; omega))) (fun _ => rfl) ?_
       intro v93 w94 hM a hA
       replace hM : Mg w w94 (.row 9 1 (.slice (some ⟨g91, 0, none⟩) 1 1) 1 (strC [sx84]) :: .row 9 1 (v93) ((xs ++ [sx84]).length) (strC (xs ++ [sx84])) :: .row 9 1 (.slice so28 ((memS l bs).length) ca29) ((memS l bs).length) (strC (memS l bs)) :: .obj g24 (.cells #[.slice none 0 0, .slice none 0 0] 25) :: .obj g18 (.cells #[.slice so10 l.length ca11, .slice si12 q14.length ci13] 25) :: .row 9 1 (.slice so10 l.length ca11) l.length (strC l) :: .row 4 1 (.slice si12 q14.length ci13) q14.length (boolC q14) :: .obj g3 (.cells #[.slice so l.length ca, .slice si bs.length ci] 25) :: []) := by
         rw [← strC_app, List.length_append]; exact hM
       obtain ⟨so95, ca96, rfl⟩ := owns_any (hM.has 1 rfl)
       refine seq_do hA rfl rfl rfl (does_assign rfl) ?_
       intro a hA
       refine seq_end ?_
       refine hK80 _ _ ?_
       refine wp_region_lit ?_
       refine seq_do hA rfl rfl rfl (does_move rfl) ?_
       intro a hA
       refine seq_do (v := .int .i64 (((j + 1 : Nat) : Int))) hA rfl rfl rfl (does_bin rfl rfl (ar_add ((in_i64 (by omega) (by omega)).trans (by omega)))) ?_
       intro a hA
       refine seq_do hA rfl rfl rfl (does_assign rfl) ?_
       intro a hA
       refine seq_end ?_
       replace hM : Mg w w94 (.row 9 1 (.slice so95 ((xs ++ [sx84]).length) ca96) ((xs ++ [sx84]).length) (strC (xs ++ [sx84])) :: .row 9 1 (.slice so28 ((memS l bs).length) ca29) ((memS l bs).length) (strC (memS l bs)) :: .obj g24 (.cells #[.slice none 0 0, .slice none 0 0] 25) :: .obj g18 (.cells #[.slice so10 l.length ca11, .slice si12 q14.length ci13] 25) :: .row 9 1 (.slice so10 l.length ca11) l.length (strC l) :: .row 4 1 (.slice si12 q14.length ci13) q14.length (boolC q14) :: .obj g3 (.cells #[.slice so l.length ca, .slice si bs.length ci] 25) :: []) := by
         have h9 := hM.sub (.cons _ (.cons_cons _ (.cons_cons _ (.cons_cons _ (.cons_cons _ (.cons_cons _ (.cons_cons _ (.cons_cons _ (.refl _)))))))))
         exact h9
       refine hK75 _ _ _ (by omega) ⟨j + 1, xs ++ [sx84], so95, ca96, rfl, ⟨by omega, by rw [fil_step hi87, ← hxs]; simp [hb90]⟩, hA.keep _ ⟨rfl, rfl, rfl, rfl, rfl, rfl, rfl, rfl, rfl, rfl, rfl, rfl, rfl, rfl, rfl, rfl, rfl, rfl, rfl, rfl, rfl, rfl, rfl, rfl, rfl, rfl, rfl, rfl, rfl, rfl, rfl, rfl, rfl, rfl, rfl, rfl, rfl, rfl, rfl, rfl, rfl, rfl, rfl, rfl, rfl, rfl, rfl, rfl, rfl, rfl, rfl, rfl, rfl, rfl, rfl, rfl, rfl, rfl, rfl, rfl, rfl, rfl, rfl, rfl, rfl, rfl, rfl, rfl, rfl, rfl, rfl, rfl, rfl, rfl, rfl, rfl, trivial⟩, hM⟩
     · have hb90' := of_decide_eq_false hb90
       refine seq_do (v := .bool false) hA rfl rfl rfl (does_bin rfl rfl (fun w => (bin_geq w).trans (by rw [hb90]))) ?_
       intro a hA
       refine seq_end ?_
       refine hK81 _ _ ?_
       refine wp_cond_false (hA.ev rfl) ?_
       refine wp_skip ?_
       refine hK80 _ _ ?_
       refine wp_region_lit ?_
       refine seq_do hA rfl rfl rfl (does_move rfl) ?_
       intro a hA
       refine seq_do (v := .int .i64 (((j + 1 : Nat) : Int))) hA rfl rfl rfl (does_bin rfl rfl (ar_add ((in_i64 (by omega) (by omega)).trans (by omega)))) ?_
       intro a hA
       refine seq_do hA rfl rfl rfl (does_assign rfl) ?_
       intro a hA
       refine seq_end ?_
       refine hK75 _ _ _ (by omega) ⟨j + 1, xs, so_, ca_, rfl, ⟨by omega, by rw [fil_step hi87, ← hxs]; simp [hb90]⟩, hA.keep _ ⟨rfl, rfl, rfl, rfl, rfl, rfl, rfl, rfl, rfl, rfl, rfl, rfl, rfl, rfl, rfl, rfl, rfl, rfl, rfl, rfl, rfl, rfl, rfl, rfl, rfl, rfl, rfl, rfl, rfl, rfl, rfl, rfl, rfl, rfl, rfl, rfl, rfl, rfl, rfl, rfl, rfl, rfl, rfl, rfl, rfl, rfl, rfl, rfl, rfl, rfl, rfl, rfl, rfl, rfl, rfl, rfl, rfl, rfl, rfl, rfl, rfl, rfl, rfl, rfl, rfl, rfl, rfl, rfl, rfl, rfl, rfl, rfl, rfl, rfl, rfl, rfl, trivial⟩, hM⟩
   · have hc79' := of_decide_eq_false hc79
     refine wp_exit ?_
     refine hK72 _ _ ?_
     refine wp_seq_k (fun K97 hK97 => ?_)
     refine wp_region_lit ?_
     refine seq_do hA rfl rfl rfl (does_move rfl) ?_
     intro a hA
     refine seq_do hA rfl rfl rfl (does_move rfl) ?_
     intro a hA
     refine seq_call hA rfl rfl rfl (enters_func rfl rfl (fun w => by kernel_rfl)) (place_any (hR.below hM.bel) hl) ?_
     rintro _ w99 ⟨rfl, hb98⟩
     replace hM := hM.call hb98
     refine ⟨_, rfl, ?_⟩
     intro a hA
     refine seq_do hA rfl rfl rfl (does_assign rfl) ?_
     intro a hA
     refine seq_end ?_
     refine hK97 _ _ ?_
     refine wp_seq_k (fun K100 hK100 => ?_)
     refine wp_region_lit ?_
     refine seq_do hA rfl rfl rfl (does_move rfl) ?_
     intro a hA
     refine seq_do hA rfl rfl rfl (does_move rfl) ?_
     intro a hA
     refine seq_skip hA rfl rfl rfl ?_
     intro a hA
     refine seq_skip hA rfl rfl rfl ?_
     intro a hA
     refine seq_skip hA rfl rfl rfl ?_
     intro a hA
     refine seq_skip hA rfl rfl rfl ?_
     intro a hA
     refine seq_skip hA rfl rfl rfl ?_
     intro a hA
     refine seq_do (v := .bool false) hA rfl rfl rfl (does_pick rfl rfl rfl rfl) ?_
     intro a hA
     refine seq_do hA rfl rfl rfl (does_move rfl) ?_
     intro a hA
     refine seq_do hA rfl rfl rfl (does_move rfl) ?_
     intro a hA
     refine seq_do (v := .bool true) hA rfl rfl rfl (does_un rfl un_not) ?_
     intro a hA
     refine seq_do hA rfl rfl rfl (does_move rfl) ?_
     intro a hA
     refine seq_do hA rfl rfl rfl (does_move rfl) ?_
     intro a hA
     refine seq_do (v := .bool true) hA rfl rfl rfl (does_bin rfl rfl (fun w => by kernel_rfl)) ?_
     intro a hA
     refine seq_do (v := .bool true) hA rfl rfl rfl (does_pick rfl rfl rfl rfl) ?_
     intro a hA
     refine seq_do (v := .bool true) hA rfl rfl rfl (does_pick rfl rfl rfl rfl) ?_
     intro a hA
     refine seq_do hA rfl rfl rfl (does_move rfl) ?_
     intro a hA
     refine seq_do hA rfl rfl rfl (does_move rfl) ?_
     intro a hA
     refine seq_do (v := .bool true) hA rfl rfl rfl (does_bin rfl rfl (fun w => by kernel_rfl)) ?_
     intro a hA
     refine seq_do (v := .bool true) hA rfl rfl rfl (does_pick rfl rfl rfl rfl) ?_
     intro a hA
     refine seq_do hA rfl rfl rfl (does_move rfl) ?_
     intro a hA
     refine seq_do hA rfl rfl rfl (does_move rfl) ?_
     intro a hA
     refine seq_do hA rfl rfl rfl (does_move rfl) ?_
     intro a hA
     refine seq_do hA rfl rfl rfl (does_move rfl) ?_
     intro a hA
     refine seq_call hA rfl rfl rfl (enters_func rfl rfl (fun w => by kernel_rfl)) (lmembers_any (hR.below hM.bel) (hB.below hM.bel) (by omega)) ?_
     rintro _ w104 ⟨so101, ca102, rfl, hM103⟩
     replace hM : Mg w w104 (.row 9 1 (.slice so101 ((memS l bs).length) ca102) ((memS l bs).length) (strC (memS l bs)) :: .row 9 1 (.slice so_ xs.length ca_) xs.length (strC xs) :: .row 9 1 (.slice so28 ((memS l bs).length) ca29) ((memS l bs).length) (strC (memS l bs)) :: .obj g24 (.cells #[.slice none 0 0, .slice none 0 0] 25) :: .obj g18 (.cells #[.slice so10 l.length ca11, .slice si12 q14.length ci13] 25) :: .row 9 1 (.slice so10 l.length ca11) l.length (strC l) :: .row 4 1 (.slice si12 q14.length ci13) q14.length (boolC q14) :: .obj g3 (.cells #[.slice so l.length ca, .slice si bs.length ci] 25) :: []) := (hM.both hM103 (noBld_cons (by simp) (noBld_cons (by simp) (noBld_cons (by simp) (noBld_cons (by simp) (noBld_cons (by simp) (noBld_cons (by simp) (noBld_cons (by simp) (noBld_quiet quietL_nil)))))))) (noBld_cons (by simp) (noBld_quiet quietL_nil)))
     refine ⟨_, rfl, ?_⟩
     intro a hA
     refine seq_call hA rfl rfl rfl (enters_func rfl rfl (fun w => by kernel_rfl)) (sameT_as (rc_own (hM.has 2 rfl)) (by have := memS_len l bs; omega) (rc_own (hM.has 0 rfl)) (by have := memS_len l bs; omega) (decide_eq_true rfl)) ?_
     rintro _ w106 ⟨rfl, hb105⟩
     replace hM := hM.call hb105
     refine ⟨_, rfl, ?_⟩
     intro a hA
     refine seq_do (v := .bool true) hA rfl rfl rfl (does_pick rfl rfl rfl rfl) ?_
     intro a hA
     refine seq_do hA rfl rfl rfl (does_move rfl) ?_
     intro a hA
     refine seq_do hA rfl rfl rfl (does_move rfl) ?_
     intro a hA
     refine seq_do (v := .bool false) hA rfl rfl rfl (does_bin rfl rfl (fun w => (bin_geq w).trans (by rw [show (decide (0 ≤ idxOfS l s)) = false from (decide_eq_false (by omega))]))) ?_
     intro a hA
     refine seq_do hA rfl rfl rfl (does_move rfl) ?_
     intro a hA
     refine seq_skip hA rfl rfl rfl ?_
     intro a hA
     refine seq_skip hA rfl rfl rfl ?_
     intro a hA
     refine seq_do (v := .bool false) hA rfl rfl rfl (does_pick rfl rfl rfl rfl) ?_
     intro a hA
     refine seq_do hA rfl rfl rfl (does_move rfl) ?_
     intro a hA
     refine seq_skip hA rfl rfl rfl ?_
     intro a hA
     refine seq_skip hA rfl rfl rfl ?_
     intro a hA
     refine seq_skip hA rfl rfl rfl ?_
     intro a hA
     refine seq_do (v := .bool false) hA rfl rfl rfl (does_pick rfl rfl rfl rfl) ?_
     intro a hA
     refine seq_do hA rfl rfl rfl (does_move rfl) ?_
     intro a hA
     refine seq_do hA rfl rfl rfl (does_move rfl) ?_
     intro a hA
     refine seq_do (v := .bool true) hA rfl rfl rfl (does_bin rfl rfl (fun w => (bin_lss w).trans (by rw [show (decide (idxOfS l s < 0)) = true from (decide_eq_true hx)]))) ?_
     intro a hA
     refine seq_do hA rfl rfl rfl (does_move rfl) ?_
     intro a hA
     refine seq_do hA rfl rfl rfl (does_move rfl) ?_
     intro a hA
     refine seq_do (v := .bool true) hA rfl rfl rfl (does_bin rfl rfl (fun w => by kernel_rfl)) ?_
     intro a hA
     refine seq_do (v := .bool true) hA rfl rfl rfl (does_pick rfl rfl rfl rfl) ?_
     intro a hA
     refine seq_do hA rfl rfl rfl (does_move rfl) ?_
     intro a hA
     refine seq_do hA rfl rfl rfl (does_move rfl) ?_
     intro a hA
     refine seq_do (v := .bool true) hA rfl rfl rfl (does_bin rfl rfl (fun w => by kernel_rfl)) ?_
     intro a hA
     refine seq_do (v := .bool true) hA rfl rfl rfl (does_pick rfl rfl rfl rfl) ?_
     intro a hA
     refine seq_do (v := .bool true) hA rfl rfl rfl (does_pick rfl rfl rfl rfl) ?_
     intro a hA
     refine seq_do (v := .bool true) hA rfl rfl rfl (does_pick rfl rfl rfl rfl) ?_
     intro a hA
     refine seq_do hA rfl rfl rfl (does_assign rfl) ?_
     intro a hA
     refine seq_end ?_
     refine hK100 _ _ ?_
     refine wp_ret ?_
     refine hret _ _ ?_
     refine ends (v := .bool true) hA rfl (.cons (res_tmp rfl) .nil) rfl ?_
     exact ⟨rfl, hM.bel⟩
set_option maxHeartbeats 1000000 in
theorem made_no_ok {w : World} {so si : Option Addr} {ca ci : Nat} {l : List ByteArray} {bs : List Bool} (hR : Rs w so l) (hB : Rl w si bs) (hl : l.length ≤ 8796093021952) {sy : Option Addr} {cy : Nat} {ys : List ByteArray} (hY : Rs w sy ys) (hly : ys.length ≤ 8796093021952) {s : ByteArray} (hs : ∀ s ∈ l, s.size ≤ 281474976710656) (hsd : sndS l bs = true) (hany : (ys.any fun s => !decide (0 ≤ idxOfS l s)) = true) (hx : 0 ≤ idxOfS l s) : Calls Try.prog 3 #[.slice so l.length ca, .slice si bs.length ci, .slice sy ys.length cy, .string s] w fun e w' => e = .returned (.bool true) ∧ Below w.heap.size w w' := by
 have h64 := (snd_le hsd).1
 have hbl := (snd_le hsd).2.1
 have ht : twS l = false := by simpa [twS] using (snd_le hsd).2.2
 have hM : Mg w w ([]) := Mg.start w
 refine walk_of (l := [(0, .slice so l.length ca), (1, .slice si bs.length ci), (2, .slice sy ys.length cy), (3, .string s)]) Try.func3 rfl Try.ntmps3 rfl rfl ?_
 intro Q hret hnorm hP a hA
 refine wp_seq_k (fun K1 hK1 => ?_)
 refine wp_region_lit ?_
 refine seq_do hA rfl rfl rfl (does_assign rfl) ?_
 intro a hA
 refine seq_end ?_
 refine hK1 _ _ ?_
 refine wp_seq_k (fun K2 hK2 => ?_)
 refine wp_region_lit ?_
 refine seq_do hA rfl rfl rfl (does_move rfl) ?_
 intro a hA
 refine seq_do hA rfl rfl rfl (does_move rfl) ?_
 intro a hA
 refine seq_do (v := .agg #[.slice so l.length ca, .slice si bs.length ci]) hA rfl rfl rfl (does_build rfl (fun w => by kernel_rfl)) ?_
 intro a hA
 refine s_new (vs := [.slice none 0 0, .slice none 0 0]) (t := 25) hA hM rfl rfl rfl (fun g => .pointer (some ⟨g, 0, none⟩)) (does_alloc (z := .agg #[.slice none 0 0, .slice none 0 0]) (by kernel_rfl) rfl) (by decide) ?_
 intro g3 w4 hM a hA
 refine s_store (us := [.slice so l.length ca, .slice si bs.length ci]) (L' := (.obj g3 (.cells #[.slice so l.length ca, .slice si bs.length ci] 25) :: [])) hA hM rfl rfl (m_store rfl rfl rfl (by kernel_rfl) hM 0 rfl rfl rfl) 0 rfl rfl rfl ?_
 intro w5 hM
 refine seq_end ?_
 refine hK2 _ _ ?_
 refine wp_seq_k (fun K6 hK6 => ?_)
 refine wp_region_lit ?_
 refine seq_do hA rfl rfl rfl (does_move rfl) ?_
 intro a hA
 refine seq_do hA rfl rfl rfl (does_move rfl) ?_
 intro a hA
 refine seq_call hA rfl rfl rfl (enters_func rfl rfl (fun w => by kernel_rfl)) (rsound_as (hR.below hM.bel) (hB.below hM.bel) hsd) ?_
 rintro _ w8 ⟨rfl, hb7⟩
 replace hM := hM.call hb7
 refine ⟨_, rfl, ?_⟩
 intro a hA
 refine seq_do hA rfl rfl rfl (does_assign rfl) ?_
 intro a hA
 refine seq_end ?_
 refine hK6 _ _ ?_
 refine wp_seq_k (fun K9 hK9 => ?_)
 refine wp_region_lit ?_
 refine seq_do hA rfl rfl rfl (does_move rfl) ?_
 intro a hA
 refine seq_call hA rfl rfl rfl (enters_func rfl rfl (fun w => by kernel_rfl)) (new_okN (hR.below hM.bel) hs ht h64) ?_
 rintro _ w17 ⟨so10, ca11, si12, ci13, q14, hq15, rfl, hM16⟩
 replace hM : Mg w w17 (.row 9 1 (.slice so10 l.length ca11) l.length (strC l) :: .row 4 1 (.slice si12 q14.length ci13) q14.length (boolC q14) :: .obj g3 (.cells #[.slice so l.length ca, .slice si bs.length ci] 25) :: []) := (hM.both hM16 (noBld_cons (by simp) (noBld_quiet quietL_nil)) (noBld_cons (by simp) (noBld_cons (by simp) (noBld_quiet quietL_nil))))
 refine ⟨_, rfl, ?_⟩
 intro a hA
 refine seq_do hA rfl rfl rfl (does_move rfl) ?_
 intro a hA
 refine seq_do (v := .agg #[.slice so10 l.length ca11, .slice si12 q14.length ci13]) hA rfl rfl rfl (does_extract (vs := [.agg #[.slice so10 l.length ca11, .slice si12 q14.length ci13], .int .i64 0]) rfl rfl) ?_
 intro a hA
 refine seq_do (v := .int .i64 0) hA rfl rfl rfl (does_extract (vs := [.agg #[.slice so10 l.length ca11, .slice si12 q14.length ci13], .int .i64 0]) rfl rfl) ?_
 intro a hA
 refine s_new (vs := [.slice none 0 0, .slice none 0 0]) (t := 25) hA hM rfl rfl rfl (fun g => .pointer (some ⟨g, 0, none⟩)) (does_alloc (z := .agg #[.slice none 0 0, .slice none 0 0]) (by kernel_rfl) rfl) (by decide) ?_
 intro g18 w19 hM a hA
 refine s_store (us := [.slice so10 l.length ca11, .slice si12 q14.length ci13]) (L' := (.obj g18 (.cells #[.slice so10 l.length ca11, .slice si12 q14.length ci13] 25) :: .row 9 1 (.slice so10 l.length ca11) l.length (strC l) :: .row 4 1 (.slice si12 q14.length ci13) q14.length (boolC q14) :: .obj g3 (.cells #[.slice so l.length ca, .slice si bs.length ci] 25) :: [])) hA hM rfl rfl (m_store rfl rfl rfl (by kernel_rfl) hM 0 rfl rfl rfl) 0 rfl rfl rfl ?_
 intro w20 hM
 refine seq_do hA rfl rfl rfl (does_assign rfl) ?_
 intro a hA
 refine seq_end ?_
 refine hK9 _ _ ?_
 refine wp_seq_k (fun K21 hK21 => ?_)
 refine wp_region_lit ?_
 refine seq_do hA rfl rfl rfl (m_loadS hM EnG_isS_25 rfl 3 rfl (cs := [.slice so l.length ca, .slice si bs.length ci]) rfl rfl) ?_
 intro a hA
 refine seq_do hA rfl rfl rfl (does_move rfl) ?_
 intro a hA
 refine seq_call hA rfl rfl rfl (enters_func rfl rfl (fun w => by kernel_rfl)) (of_none (hR.below hM.bel) (hB.below hM.bel) (hY.below hM.bel) hly hsd hany) ?_
 rintro _ w23 ⟨rfl, hb22⟩
 replace hM := hM.call hb22
 refine ⟨_, rfl, ?_⟩
 intro a hA
 refine seq_do hA rfl rfl rfl (does_move rfl) ?_
 intro a hA
 refine seq_do (v := .agg #[.slice none 0 0, .slice none 0 0]) hA rfl rfl rfl (does_extract (vs := [.agg #[.slice none 0 0, .slice none 0 0], .int .i64 7]) rfl rfl) ?_
 intro a hA
 refine seq_do (v := .int .i64 7) hA rfl rfl rfl (does_extract (vs := [.agg #[.slice none 0 0, .slice none 0 0], .int .i64 7]) rfl rfl) ?_
 intro a hA
 refine s_new (vs := [.slice none 0 0, .slice none 0 0]) (t := 25) hA hM rfl rfl rfl (fun g => .pointer (some ⟨g, 0, none⟩)) (does_alloc (z := .agg #[.slice none 0 0, .slice none 0 0]) (by kernel_rfl) rfl) (by decide) ?_
 intro g24 w25 hM a hA
 refine s_store (us := [.slice none 0 0, .slice none 0 0]) (L' := (.obj g24 (.cells #[.slice none 0 0, .slice none 0 0] 25) :: .obj g18 (.cells #[.slice so10 l.length ca11, .slice si12 q14.length ci13] 25) :: .row 9 1 (.slice so10 l.length ca11) l.length (strC l) :: .row 4 1 (.slice si12 q14.length ci13) q14.length (boolC q14) :: .obj g3 (.cells #[.slice so l.length ca, .slice si bs.length ci] 25) :: [])) hA hM rfl rfl (m_store rfl rfl rfl (by kernel_rfl) hM 0 rfl rfl rfl) 0 rfl rfl rfl ?_
 intro w26 hM
 refine seq_do hA rfl rfl rfl (does_assign rfl) ?_
 intro a hA
 refine seq_end ?_
 refine hK21 _ _ ?_
 refine wp_seq_k (fun K27 hK27 => ?_)
 refine wp_region_lit ?_
 refine seq_do hA rfl rfl rfl (m_loadS hM EnG_isS_25 rfl 4 rfl (cs := [.slice so l.length ca, .slice si bs.length ci]) rfl rfl) ?_
 intro a hA
 refine seq_call hA rfl rfl rfl (enters_func rfl rfl (fun w => by kernel_rfl)) (list_ok (hR.below hM.bel) (hB.below hM.bel) hs hsd) ?_
 rintro _ w31 ⟨so28, ca29, rfl, hM30⟩
 replace hM : Mg w w31 (.row 9 1 (.slice so28 ((memS l bs).length) ca29) ((memS l bs).length) (strC (memS l bs)) :: .obj g24 (.cells #[.slice none 0 0, .slice none 0 0] 25) :: .obj g18 (.cells #[.slice so10 l.length ca11, .slice si12 q14.length ci13] 25) :: .row 9 1 (.slice so10 l.length ca11) l.length (strC l) :: .row 4 1 (.slice si12 q14.length ci13) q14.length (boolC q14) :: .obj g3 (.cells #[.slice so l.length ca, .slice si bs.length ci] 25) :: []) := (hM.both hM30 (noBld_cons (by simp) (noBld_cons (by simp) (noBld_cons (by simp) (noBld_cons (by simp) (noBld_cons (by simp) (noBld_quiet quietL_nil)))))) (noBld_cons (by simp) (noBld_quiet quietL_nil)))
 refine ⟨_, rfl, ?_⟩
 intro a hA
 refine seq_do hA rfl rfl rfl (does_move rfl) ?_
 intro a hA
 refine seq_do (v := .slice so28 ((memS l bs).length) ca29) hA rfl rfl rfl (does_extract (vs := [.slice so28 ((memS l bs).length) ca29, .int .i64 0]) rfl rfl) ?_
 intro a hA
 refine seq_do (v := .int .i64 0) hA rfl rfl rfl (does_extract (vs := [.slice so28 ((memS l bs).length) ca29, .int .i64 0]) rfl rfl) ?_
 intro a hA
 refine seq_do hA rfl rfl rfl (does_assign rfl) ?_
 intro a hA
 refine seq_do hA rfl rfl rfl (does_assign rfl) ?_
 intro a hA
 refine seq_end ?_
 refine hK27 _ _ ?_
 refine wp_seq_k (fun K32 hK32 => ?_)
 refine wp_region_lit ?_
 refine seq_do hA rfl rfl rfl (m_loadS hM EnG_isS_25 rfl 5 rfl (cs := [.slice so l.length ca, .slice si bs.length ci]) rfl rfl) ?_
 intro a hA
 refine seq_do hA rfl rfl rfl (does_move rfl) ?_
 intro a hA
 refine seq_call hA rfl rfl rfl (enters_func rfl rfl (fun w => by kernel_rfl)) (index_ok (hR.below hM.bel) (hB.below hM.bel) hsd hx) ?_
 rintro _ w34 ⟨rfl, hb33⟩
 replace hM := hM.call hb33
 refine ⟨_, rfl, ?_⟩
 intro a hA
 refine seq_do hA rfl rfl rfl (does_move rfl) ?_
 intro a hA
 refine seq_do (v := .int .i64 (idxOfS l s)) hA rfl rfl rfl (does_extract (vs := [.int .i64 (idxOfS l s), .int .i64 0]) rfl rfl) ?_
 intro a hA
 refine seq_do (v := .int .i64 0) hA rfl rfl rfl (does_extract (vs := [.int .i64 (idxOfS l s), .int .i64 0]) rfl rfl) ?_
 intro a hA
 refine seq_do hA rfl rfl rfl (does_assign rfl) ?_
 intro a hA
 refine seq_do hA rfl rfl rfl (does_assign rfl) ?_
 intro a hA
 refine seq_end ?_
 refine hK32 _ _ ?_
 refine wp_seq_k (fun K35 hK35 => ?_)
 refine wp_seq_k (fun K36 hK36 => ?_)
 refine wp_region_lit ?_
 refine seq_call hA rfl rfl rfl (enters_func rfl rfl (fun w => by kernel_rfl)) (awake_any) ?_
 rintro _ w38 ⟨rfl, hb37⟩
 replace hM := hM.call hb37
 refine ⟨_, rfl, ?_⟩
 intro a hA
 refine seq_do (v := .bool false) hA rfl rfl rfl (does_un rfl un_not) ?_
 intro a hA
 refine seq_do hA rfl rfl rfl (does_move rfl) ?_
 intro a hA
 refine seq_do hA rfl rfl rfl (m_loadS hM EnG_isS_25 rfl 5 rfl (cs := [.slice so l.length ca, .slice si bs.length ci]) rfl rfl) ?_
 intro a hA
 refine seq_call hA rfl rfl rfl (enters_func rfl rfl (fun w => by kernel_rfl)) (sound_as (hR.below hM.bel) (hB.below hM.bel) hsd) ?_
 rintro _ w40 ⟨rfl, hb39⟩
 replace hM := hM.call hb39
 refine ⟨_, rfl, ?_⟩
 intro a hA
 refine seq_do hA rfl rfl rfl (does_move rfl) ?_
 intro a hA
 refine seq_do (v := .bool false) hA rfl rfl rfl (does_bin rfl rfl (bin_neqB Try.underlying4)) ?_
 intro a hA
 refine seq_do (v := .bool false) hA rfl rfl rfl (does_pick rfl rfl rfl rfl) ?_
 intro a hA
 refine seq_end ?_
 refine hK36 _ _ ?_
 refine wp_cond_false (hA.ev rfl) ?_
 refine wp_skip ?_
 refine hK35 _ _ ?_
 refine wp_seq_k (fun K41 hK41 => ?_)
 refine wp_block ?_
 refine wp_seq_k (fun K42 hK42 => ?_)
 refine wp_region_lit ?_
 refine seq_do hA rfl rfl rfl (does_move rfl) ?_
 intro a hA
 refine seq_call hA rfl rfl rfl (enters_func rfl rfl (fun w => by kernel_rfl)) (rtwice_as (hR.below hM.bel) hl ht) ?_
 rintro _ w44 ⟨rfl, hb43⟩
 replace hM := hM.call hb43
 refine ⟨_, rfl, ?_⟩
 intro a hA
 refine seq_do hA rfl rfl rfl (does_assign rfl) ?_
 intro a hA
 refine seq_end ?_
 refine hK42 _ _ ?_
 refine wp_cond_false (hA.ev rfl) ?_
 refine wp_seq_k (fun K45 hK45 => ?_)
 refine wp_region_lit ?_
 refine seq_do hA rfl rfl rfl (does_move rfl) ?_
 intro a hA
 refine seq_do (v := .int .i64 (((l.length : Nat) : Int))) hA rfl rfl rfl (does_len Try.underlying22 rfl) ?_
 intro a hA
 refine seq_do (v := .bool false) hA rfl rfl rfl (does_bin rfl rfl (fun w => (bin_gtr w).trans (by rw [show (decide (64 < ((l.length : Nat) : Int))) = false from (decide_eq_false (by omega))]))) ?_
 intro a hA
 refine seq_do hA rfl rfl rfl (does_assign rfl) ?_
 intro a hA
 refine seq_end ?_
 refine hK45 _ _ ?_
 refine wp_cond_false (hA.ev rfl) ?_
 refine wp_seq_k (fun K46 hK46 => ?_)
 refine wp_region_lit ?_
 refine seq_do hA rfl rfl rfl (m_loadS hM EnG_isS_25 rfl 2 rfl (cs := [.slice so10 l.length ca11, .slice si12 q14.length ci13]) rfl rfl) ?_
 intro a hA
 refine seq_do hA rfl rfl rfl (does_move rfl) ?_
 intro a hA
 refine seq_do hA rfl rfl rfl (does_move rfl) ?_
 intro a hA
 refine seq_do hA rfl rfl rfl (does_move rfl) ?_
 intro a hA
 refine seq_call hA rfl rfl rfl (enters_func rfl rfl (fun w => by kernel_rfl)) (is_any (rc_own (hM.has 3 rfl)) (rc_own (hM.has 4 rfl)) (hR.below hM.bel) (hR.below hM.bel) (by omega) (snd_map hsd hq15) (by rw [hq15, mem_map]; simp)) ?_
 rintro _ w48 ⟨rfl, hb47⟩
 replace hM := hM.call hb47
 refine ⟨_, rfl, ?_⟩
 intro a hA
 refine seq_do (v := .bool false) hA rfl rfl rfl (does_un rfl un_not) ?_
 intro a hA
 refine seq_do hA rfl rfl rfl (does_assign rfl) ?_
 intro a hA
 refine seq_end ?_
 refine hK46 _ _ ?_
 refine wp_cond_false (hA.ev rfl) ?_
 refine wp_skip ?_
 refine hK41 _ _ ?_
 refine wp_seq_k (fun K49 hK49 => ?_)
 refine wp_seq_k (fun K50 hK50 => ?_)
 refine wp_region_lit ?_
 refine seq_do hA rfl rfl rfl (does_move rfl) ?_
 intro a hA
 refine seq_do (v := .bool false) hA rfl rfl rfl (does_un rfl un_not) ?_
 intro a hA
 refine seq_end ?_
 refine hK50 _ _ ?_
 refine wp_cond_false (hA.ev rfl) ?_
 refine wp_skip ?_
 refine hK49 _ _ ?_
 refine wp_seq_k (fun K51 hK51 => ?_)
 refine wp_region_lit ?_
 refine seq_do hA rfl rfl rfl (does_assign rfl) ?_
 intro a hA
 refine seq_end ?_
 refine hK51 _ _ ?_
 refine wp_seq_k (fun K52 hK52 => ?_)
 refine wp_region_lit ?_
 refine s_litE (e := 9) (sz := 1) (m := 0) (vs := strC []) hA hM rfl rfl rfl (does_buildSlice rfl (by kernel_rfl)) rfl rfl (.inl (by decide)) ?_
 intro g53 w54 hM a hA
 refine seq_do hA rfl rfl rfl (does_assign rfl) ?_
 intro a hA
 refine seq_end ?_
 refine hK52 _ _ ?_
 refine wp_seq_k (fun K55 hK55 => ?_)
 refine wp_seq_k (fun K56 hK56 => ?_)
 refine wp_region_lit ?_
 refine seq_do hA rfl rfl rfl (does_assign rfl) ?_
 intro a hA
 refine seq_end ?_
 refine hK56 _ _ ?_
 refine wp_block ?_
 refine wp_loop_n (fun m_ a w1 => ∃ (i : Nat) (kf : Bool), m_ = 1 + (ys.length - i) ∧ (i ≤ ys.length ∧ kf = (ys.take i).all (fun s => decide (0 ≤ idxOfS l s))) ∧ Sl a 197 [(0, .slice so l.length ca), (1, .slice si bs.length ci), (2, .slice sy ys.length cy), (3, .string s), (8, .bool false), (9, .pointer (some ⟨g3, 0, none⟩)), (10, .bool true), (11, .pointer (some ⟨g18, 0, none⟩)), (12, .int .i64 0), (13, .pointer (some ⟨g24, 0, none⟩)), (14, .int .i64 7), (15, .slice so28 ((memS l bs).length) ca29), (16, .int .i64 0), (17, .int .i64 (idxOfS l s)), (18, .int .i64 0), (19, .bool kf), (20, .slice (some ⟨g53, 0, none⟩) 0 0), (21, .int .i64 (((i : Nat) : Int))), (24, .slice so l.length ca), (25, .slice si bs.length ci), (26, .agg #[.slice so l.length ca, .slice si bs.length ci]), (27, .slice so l.length ca), (28, .slice si bs.length ci), (29, .bool true), (30, .tuple #[.agg #[.slice so10 l.length ca11, .slice si12 q14.length ci13], .int .i64 0]), (31, .slice so l.length ca), (32, .tuple #[.agg #[.slice so10 l.length ca11, .slice si12 q14.length ci13], .int .i64 0]), (33, .agg #[.slice so10 l.length ca11, .slice si12 q14.length ci13]), (34, .int .i64 0), (35, .tuple #[.agg #[.slice none 0 0, .slice none 0 0], .int .i64 7]), (36, .agg #[.slice so l.length ca, .slice si bs.length ci]), (37, .slice sy ys.length cy), (38, .tuple #[.agg #[.slice none 0 0, .slice none 0 0], .int .i64 7]), (39, .agg #[.slice none 0 0, .slice none 0 0]), (40, .int .i64 7), (41, .tuple #[.slice so28 ((memS l bs).length) ca29, .int .i64 0]), (42, .agg #[.slice so l.length ca, .slice si bs.length ci]), (43, .tuple #[.slice so28 ((memS l bs).length) ca29, .int .i64 0]), (44, .slice so28 ((memS l bs).length) ca29), (45, .int .i64 0), (46, .tuple #[.int .i64 (idxOfS l s), .int .i64 0]), (47, .agg #[.slice so l.length ca, .slice si bs.length ci]), (48, .string s), (49, .tuple #[.int .i64 (idxOfS l s), .int .i64 0]), (50, .int .i64 (idxOfS l s)), (51, .int .i64 0), (52, .bool true), (53, .bool false), (54, .bool false), (55, .agg #[.slice so l.length ca, .slice si bs.length ci]), (56, .bool true), (57, .bool true), (58, .bool false), (59, .bool false), (60, .bool false), (61, .slice so l.length ca), (62, .bool false), (65, .bool false), (66, .slice so l.length ca), (67, .int .i64 (((l.length : Nat) : Int))), (68, .bool false), (71, .bool false), (72, .agg #[.slice so10 l.length ca11, .slice si12 q14.length ci13]), (73, .int .i64 0), (74, .slice so l.length ca), (75, .slice so l.length ca), (76, .bool true), (77, .bool false), (78, .bool true), (79, .bool false), (105, .slice (some ⟨g53, 0, none⟩) 0 0)] ∧ Mg w w1 (.row 9 1 (.slice (some ⟨g53, 0, none⟩) 0 0) 0 (strC []) :: .row 9 1 (.slice so28 ((memS l bs).length) ca29) ((memS l bs).length) (strC (memS l bs)) :: .obj g24 (.cells #[.slice none 0 0, .slice none 0 0] 25) :: .obj g18 (.cells #[.slice so10 l.length ca11, .slice si12 q14.length ci13] 25) :: .row 9 1 (.slice so10 l.length ca11) l.length (strC l) :: .row 4 1 (.slice si12 q14.length ci13) q14.length (boolC q14) :: .obj g3 (.cells #[.slice so l.length ca, .slice si bs.length ci] 25) :: [])) _ ⟨0, true, rfl, ⟨Nat.zero_le _, rfl⟩, hA.keep _ ⟨rfl, rfl, rfl, rfl, rfl, rfl, rfl, rfl, rfl, rfl, rfl, rfl, rfl, rfl, rfl, rfl, rfl, rfl, rfl, rfl, rfl, rfl, rfl, rfl, rfl, rfl, rfl, rfl, rfl, rfl, rfl, rfl, rfl, rfl, rfl, rfl, rfl, rfl, rfl, rfl, rfl, rfl, rfl, rfl, rfl, rfl, rfl, rfl, rfl, rfl, rfl, rfl, rfl, rfl, rfl, rfl, rfl, rfl, rfl, rfl, rfl, rfl, rfl, rfl, rfl, rfl, rfl, rfl, rfl, rfl, rfl, trivial⟩, hM⟩ ?_
 clear hM hA
 rintro m_ a w57 ⟨i, kf, rfl, hinv59, hA, hM⟩ K58 hK58
 obtain ⟨hi0, hkf⟩ := hinv59
 refine wp_seq_k (fun K60 hK60 => ?_)
 refine wp_seq_k (fun K61 hK61 => ?_)
 refine wp_region_lit ?_
 refine seq_do hA rfl rfl rfl (does_move rfl) ?_
 intro a hA
 refine seq_do hA rfl rfl rfl (does_move rfl) ?_
 intro a hA
 refine seq_do (v := .int .i64 (((ys.length : Nat) : Int))) hA rfl rfl rfl (does_len Try.underlying22 rfl) ?_
 intro a hA
 refine seq_do (v := .bool (decide (((i : Nat) : Int) < ((ys.length : Nat) : Int)))) hA rfl rfl rfl (does_bin rfl rfl bin_lss) ?_
 intro a hA
 refine seq_end ?_
 refine hK61 _ _ ?_
 refine wp_cond_split (t := decide (((i : Nat) : Int) < ((ys.length : Nat) : Int))) (hA.ev rfl) (fun hc62 => ?_) (fun hc62 => ?_)
 · have hc62' := of_decide_eq_true hc62
   refine wp_skip ?_
   refine hK60 _ _ ?_
   refine wp_seq_k (fun K63 hK63 => ?_)
   refine wp_block ?_
   refine wp_region_lit ?_
   refine seq_do hA rfl rfl rfl (does_move rfl) ?_
   intro a hA
   refine seq_do hA rfl rfl rfl (does_move rfl) ?_
   intro a hA
   rcases kf with _ | _
   · refine seq_skip hA rfl rfl rfl ?_
     intro a hA
     refine seq_skip hA rfl rfl rfl ?_
     intro a hA
     refine seq_skip hA rfl rfl rfl ?_
     intro a hA
     refine seq_skip hA rfl rfl rfl ?_
     intro a hA
     refine seq_skip hA rfl rfl rfl ?_
     intro a hA
     refine seq_skip hA rfl rfl rfl ?_
     intro a hA
     refine seq_skip hA rfl rfl rfl ?_
     intro a hA
     refine seq_do (v := .bool false) hA rfl rfl rfl (does_pick rfl rfl rfl rfl) ?_
     intro a hA
     refine seq_do hA rfl rfl rfl (does_assign rfl) ?_
     intro a hA
     refine seq_end ?_
     refine hK63 _ _ ?_
     refine wp_region_lit ?_
     refine seq_do hA rfl rfl rfl (does_move rfl) ?_
     intro a hA
     refine seq_do (v := .int .i64 (((i + 1 : Nat) : Int))) hA rfl rfl rfl (does_bin rfl rfl (ar_add ((in_i64 (by omega) (by omega)).trans (by omega)))) ?_
     intro a hA
     refine seq_do hA rfl rfl rfl (does_assign rfl) ?_
     intro a hA
     refine seq_end ?_
     refine hK58 _ _ _ (by omega) ⟨i + 1, false, rfl, ⟨by omega, by rw [List.take_add_one, List.all_append, ← hkf]; rfl⟩, hA.keep _ ⟨rfl, rfl, rfl, rfl, rfl, rfl, rfl, rfl, rfl, rfl, rfl, rfl, rfl, rfl, rfl, rfl, rfl, rfl, rfl, rfl, rfl, rfl, rfl, rfl, rfl, rfl, rfl, rfl, rfl, rfl, rfl, rfl, rfl, rfl, rfl, rfl, rfl, rfl, rfl, rfl, rfl, rfl, rfl, rfl, rfl, rfl, rfl, rfl, rfl, rfl, rfl, rfl, rfl, rfl, rfl, rfl, rfl, rfl, rfl, rfl, rfl, rfl, rfl, rfl, rfl, rfl, rfl, rfl, rfl, rfl, rfl, trivial⟩, hM⟩
   · refine seq_do hA rfl rfl rfl (does_move rfl) ?_
     intro a hA
     refine seq_do hA rfl rfl rfl (does_move rfl) ?_
     intro a hA
     refine seq_do hA rfl rfl rfl (does_move rfl) ?_
     intro a hA
     obtain ⟨bx64, ox65, sx66, hs67, hc68, hi69⟩ := hY.at_ (i := i) (by omega)
     refine seq_do (v := .pointer (some ⟨bx64, ox65 + i, none⟩)) hA rfl rfl rfl (does_indexRow (k := i) Try.underlying22 (by kernel_rfl) rfl rfl (by first | rfl | omega) hs67 (by omega)) ?_
     intro a hA
     refine seq_do hA rfl rfl rfl (m_loadX hM hc68 EnG_is1_9 rfl) ?_
     intro a hA
     refine seq_call hA rfl rfl rfl (enters_func rfl rfl (fun w => by kernel_rfl)) (place_any (hR.below hM.bel) hl) ?_
     rintro _ w71 ⟨rfl, hb70⟩
     replace hM := hM.call hb70
     refine ⟨_, rfl, ?_⟩
     intro a hA
     refine seq_do (v := .bool (decide (0 ≤ idxOfS l sx66))) hA rfl rfl rfl (does_bin rfl rfl bin_geq) ?_
     intro a hA
     refine seq_do (v := .bool (decide (0 ≤ idxOfS l sx66))) hA rfl rfl rfl (does_pick rfl rfl rfl rfl) ?_
     intro a hA
     refine seq_do hA rfl rfl rfl (does_assign rfl) ?_
     intro a hA
     refine seq_end ?_
     refine hK63 _ _ ?_
     refine wp_region_lit ?_
     refine seq_do hA rfl rfl rfl (does_move rfl) ?_
     intro a hA
     refine seq_do (v := .int .i64 (((i + 1 : Nat) : Int))) hA rfl rfl rfl (does_bin rfl rfl (ar_add ((in_i64 (by omega) (by omega)).trans (by omega)))) ?_
     intro a hA
     refine seq_do hA rfl rfl rfl (does_assign rfl) ?_
     intro a hA
     refine seq_end ?_
     refine hK58 _ _ _ (by omega) ⟨i + 1, decide (0 ≤ idxOfS l sx66), rfl, ⟨by omega, by rw [List.take_add_one, hi69, List.all_append, ← hkf]; simp⟩, hA.keep _ ⟨rfl, rfl, rfl, rfl, rfl, rfl, rfl, rfl, rfl, rfl, rfl, rfl, rfl, rfl, rfl, rfl, rfl, rfl, rfl, rfl, rfl, rfl, rfl, rfl, rfl, rfl, rfl, rfl, rfl, rfl, rfl, rfl, rfl, rfl, rfl, rfl, rfl, rfl, rfl, rfl, rfl, rfl, rfl, rfl, rfl, rfl, rfl, rfl, rfl, rfl, rfl, rfl, rfl, rfl, rfl, rfl, rfl, rfl, rfl, rfl, rfl, rfl, rfl, rfl, rfl, rfl, rfl, rfl, rfl, rfl, rfl, trivial⟩, hM⟩
 · have hc62' := of_decide_eq_false hc62
   refine wp_exit ?_
   refine hK55 _ _ ?_
   refine wp_seq_k (fun K72 hK72 => ?_)
   refine wp_seq_k (fun K73 hK73 => ?_)
   obtain rfl : kf = false := by rw [hkf, List.take_of_length_le (show ys.length ≤ i by omega), all_any, hany]; rfl
   refine wp_region_lit ?_
   refine seq_do hA rfl rfl rfl (does_assign rfl) ?_
   intro a hA
   refine seq_end ?_
   refine hK73 _ _ ?_
   refine wp_block ?_
   refine wp_loop_n (fun m_ a w1 => ∃ (j : Nat) (xs : List ByteArray) (so_ : Option Addr) (ca_ : Nat), m_ = 1 + (l.length - j) ∧ (j ≤ l.length ∧ xs = (l.take j).filter (fun s => decide (0 ≤ idxOfS ys s))) ∧ Sl a 197 [(0, .slice so l.length ca), (1, .slice si bs.length ci), (2, .slice sy ys.length cy), (3, .string s), (8, .bool false), (9, .pointer (some ⟨g3, 0, none⟩)), (10, .bool true), (11, .pointer (some ⟨g18, 0, none⟩)), (12, .int .i64 0), (13, .pointer (some ⟨g24, 0, none⟩)), (14, .int .i64 7), (15, .slice so28 ((memS l bs).length) ca29), (16, .int .i64 0), (17, .int .i64 (idxOfS l s)), (18, .int .i64 0), (19, .bool false), (20, .slice so_ xs.length ca_), (21, .int .i64 (((i : Nat) : Int))), (22, .int .i64 (((j : Nat) : Int))), (24, .slice so l.length ca), (25, .slice si bs.length ci), (26, .agg #[.slice so l.length ca, .slice si bs.length ci]), (27, .slice so l.length ca), (28, .slice si bs.length ci), (29, .bool true), (30, .tuple #[.agg #[.slice so10 l.length ca11, .slice si12 q14.length ci13], .int .i64 0]), (31, .slice so l.length ca), (32, .tuple #[.agg #[.slice so10 l.length ca11, .slice si12 q14.length ci13], .int .i64 0]), (33, .agg #[.slice so10 l.length ca11, .slice si12 q14.length ci13]), (34, .int .i64 0), (35, .tuple #[.agg #[.slice none 0 0, .slice none 0 0], .int .i64 7]), (36, .agg #[.slice so l.length ca, .slice si bs.length ci]), (37, .slice sy ys.length cy), (38, .tuple #[.agg #[.slice none 0 0, .slice none 0 0], .int .i64 7]), (39, .agg #[.slice none 0 0, .slice none 0 0]), (40, .int .i64 7), (41, .tuple #[.slice so28 ((memS l bs).length) ca29, .int .i64 0]), (42, .agg #[.slice so l.length ca, .slice si bs.length ci]), (43, .tuple #[.slice so28 ((memS l bs).length) ca29, .int .i64 0]), (44, .slice so28 ((memS l bs).length) ca29), (45, .int .i64 0), (46, .tuple #[.int .i64 (idxOfS l s), .int .i64 0]), (47, .agg #[.slice so l.length ca, .slice si bs.length ci]), (48, .string s), (49, .tuple #[.int .i64 (idxOfS l s), .int .i64 0]), (50, .int .i64 (idxOfS l s)), (51, .int .i64 0), (52, .bool true), (53, .bool false), (54, .bool false), (55, .agg #[.slice so l.length ca, .slice si bs.length ci]), (56, .bool true), (57, .bool true), (58, .bool false), (59, .bool false), (60, .bool false), (61, .slice so l.length ca), (62, .bool false), (65, .bool false), (66, .slice so l.length ca), (67, .int .i64 (((l.length : Nat) : Int))), (68, .bool false), (71, .bool false), (72, .agg #[.slice so10 l.length ca11, .slice si12 q14.length ci13]), (73, .int .i64 0), (74, .slice so l.length ca), (75, .slice so l.length ca), (76, .bool true), (77, .bool false), (78, .bool true), (79, .bool false), (105, .slice (some ⟨g53, 0, none⟩) 0 0), (106, .int .i64 (((i : Nat) : Int))), (107, .slice sy ys.length cy), (108, .int .i64 (((ys.length : Nat) : Int))), (109, .bool (decide (((i : Nat) : Int) < ((ys.length : Nat) : Int))))] ∧ Mg w w1 (.row 9 1 (.slice so_ xs.length ca_) xs.length (strC xs) :: .row 9 1 (.slice so28 ((memS l bs).length) ca29) ((memS l bs).length) (strC (memS l bs)) :: .obj g24 (.cells #[.slice none 0 0, .slice none 0 0] 25) :: .obj g18 (.cells #[.slice so10 l.length ca11, .slice si12 q14.length ci13] 25) :: .row 9 1 (.slice so10 l.length ca11) l.length (strC l) :: .row 4 1 (.slice si12 q14.length ci13) q14.length (boolC q14) :: .obj g3 (.cells #[.slice so l.length ca, .slice si bs.length ci] 25) :: [])) _ ⟨0, [], _, 0, rfl, ⟨Nat.zero_le _, rfl⟩, hA.keep _ ⟨rfl, rfl, rfl, rfl, rfl, rfl, rfl, rfl, rfl, rfl, rfl, rfl, rfl, rfl, rfl, rfl, rfl, rfl, rfl, rfl, rfl, rfl, rfl, rfl, rfl, rfl, rfl, rfl, rfl, rfl, rfl, rfl, rfl, rfl, rfl, rfl, rfl, rfl, rfl, rfl, rfl, rfl, rfl, rfl, rfl, rfl, rfl, rfl, rfl, rfl, rfl, rfl, rfl, rfl, rfl, rfl, rfl, rfl, rfl, rfl, rfl, rfl, rfl, rfl, rfl, rfl, rfl, rfl, rfl, rfl, rfl, rfl, rfl, rfl, rfl, rfl, trivial⟩, hM⟩ ?_
   clear hM hA
   rintro m_ a w74 ⟨j, xs, so_, ca_, rfl, hinv76, hA, hM⟩ K75 hK75
   obtain ⟨hj0, hxs⟩ := hinv76
   have hLxs : xs.length ≤ j := by rw [hxs]; exact fil_len
   refine wp_seq_k (fun K77 hK77 => ?_)
   refine wp_seq_k (fun K78 hK78 => ?_)
   refine wp_region_lit ?_
   refine seq_do hA rfl rfl rfl (does_move rfl) ?_
   intro a hA
   refine seq_do hA rfl rfl rfl (does_move rfl) ?_
   intro a hA
   refine seq_do (v := .int .i64 (((l.length : Nat) : Int))) hA rfl rfl rfl (does_len Try.underlying22 rfl) ?_
   intro a hA
   refine seq_do (v := .bool (decide (((j : Nat) : Int) < ((l.length : Nat) : Int)))) hA rfl rfl rfl (does_bin rfl rfl bin_lss) ?_
   intro a hA
   refine seq_end ?_
   refine hK78 _ _ ?_
   refine wp_cond_split (t := decide (((j : Nat) : Int) < ((l.length : Nat) : Int))) (hA.ev rfl) (fun hc79 => ?_) (fun hc79 => ?_)
   · have hc79' := of_decide_eq_true hc79
     refine wp_skip ?_
     refine hK77 _ _ ?_
     refine wp_seq_k (fun K80 hK80 => ?_)
     refine wp_block ?_
     refine wp_seq_k (fun K81 hK81 => ?_)
     refine wp_region_lit ?_
     refine seq_do hA rfl rfl rfl (does_move rfl) ?_
     intro a hA
     refine seq_do hA rfl rfl rfl (does_move rfl) ?_
     intro a hA
     refine seq_do hA rfl rfl rfl (does_move rfl) ?_
     intro a hA
     obtain ⟨bx82, ox83, sx84, hs85, hc86, hi87⟩ := hR.at_ (i := j) (by omega)
     refine seq_do (v := .pointer (some ⟨bx82, ox83 + j, none⟩)) hA rfl rfl rfl (does_indexRow (k := j) Try.underlying22 (by kernel_rfl) rfl rfl (by first | rfl | omega) hs85 (by omega)) ?_
     intro a hA
     refine seq_do hA rfl rfl rfl (m_loadX hM hc86 EnG_is1_9 rfl) ?_
     intro a hA
     refine seq_call hA rfl rfl rfl (enters_func rfl rfl (fun w => by kernel_rfl)) (place_any (hY.below hM.bel) hly) ?_
     rintro _ w89 ⟨rfl, hb88⟩
     replace hM := hM.call hb88
     refine ⟨_, rfl, ?_⟩
     intro a hA
     rcases Bool.eq_false_or_eq_true (decide (0 ≤ idxOfS ys sx84)) with hb90 | hb90
     · have hb90' := of_decide_eq_true hb90
       refine seq_do (v := .bool true) hA rfl rfl rfl (does_bin rfl rfl (fun w => (bin_geq w).trans (by rw [hb90]))) ?_
       intro a hA
       refine seq_end ?_
       refine hK81 _ _ ?_
       refine wp_cond_true (hA.ev rfl) ?_
       refine wp_region_lit ?_
       refine seq_do hA rfl rfl rfl (does_move rfl) ?_
       intro a hA
       refine seq_do hA rfl rfl rfl (does_move rfl) ?_
       intro a hA
       refine seq_do hA rfl rfl rfl (does_move rfl) ?_
       intro a hA
       refine seq_do (v := .pointer (some ⟨bx82, ox83 + j, none⟩)) hA rfl rfl rfl (does_indexRow (k := j) Try.underlying22 (by kernel_rfl) rfl rfl (by first | rfl | omega) hs85 (by omega)) ?_
       intro a hA
       refine seq_do hA rfl rfl rfl (m_loadX hM hc86 EnG_is1_9 rfl) ?_
       intro a hA
       refine s_litE (e := 9) (sz := 1) (m := 1) (vs := strC [sx84]) hA hM rfl rfl rfl (does_buildSlice rfl (by kernel_rfl)) rfl rfl (.inl (by decide)) ?_
       intro g91 w92 hM a hA
       refine s_appendE (e := 9) (sz := 1) (k := 1) (q := xs.length) (m := 1) (xs := strC xs) (news := strC [sx84]) (L' := fun v93 => (.row 9 1 (.slice (some ⟨g91, 0, none⟩) 1 1) 1 (strC [sx84]) :: .row 9 1 (v93) (xs.length + 1) (strC xs ++ strC [sx84]) :: .row 9 1 (.slice so28 ((memS l bs).length) ca29) ((memS l bs).length) (strC (memS l bs)) :: .obj g24 (.cells #[.slice none 0 0, .slice none 0 0] 25) :: .obj g18 (.cells #[.slice so10 l.length ca11, .slice si12 q14.length ci13] 25) :: .row 9 1 (.slice so10 l.length ca11) l.length (strC l) :: .row 4 1 (.slice si12 q14.length ci13) q14.length (boolC q14) :: .obj g3 (.cells #[.slice so l.length ca, .slice si bs.length ci] 25) :: [])) hA rfl rfl rfl (m_appX (z := .string ⟨#[]⟩) (sz := 1) (by_ := 16) Try.underlying22 (by kernel_rfl) rfl rfl rfl hM 1 rfl rfl rfl (strC_n [sx84]) (rc_own (hM.has 0 rfl)) (strC_one [sx84]) (by first | omega | (simp only [List.length_nil]; omega))) (fun _ => rfl) ?_
       intro v93 w94 hM a hA
       replace hM : Mg w w94 (.row 9 1 (.slice (some ⟨g91, 0, none⟩) 1 1) 1 (strC [sx84]) :: .row 9 1 (v93) ((xs ++ [sx84]).length) (strC (xs ++ [sx84])) :: .row 9 1 (.slice so28 ((memS l bs).length) ca29) ((memS l bs).length) (strC (memS l bs)) :: .obj g24 (.cells #[.slice none 0 0, .slice none 0 0] 25) :: .obj g18 (.cells #[.slice so10 l.length ca11, .slice si12 q14.length ci13] 25) :: .row 9 1 (.slice so10 l.length ca11) l.length (strC l) :: .row 4 1 (.slice si12 q14.length ci13) q14.length (boolC q14) :: .obj g3 (.cells #[.slice so l.length ca, .slice si bs.length ci] 25) :: []) := by
         rw [← strC_app, List.length_append]; exact hM
       obtain ⟨so95, ca96, rfl⟩ := owns_any (hM.has 1 rfl)
       refine seq_do hA rfl rfl rfl (does_assign rfl) ?_
       intro a hA
       refine seq_end ?_
       refine hK80 _ _ ?_
       refine wp_region_lit ?_
       refine seq_do hA rfl rfl rfl (does_move rfl) ?_
       intro a hA
       refine seq_do (v := .int .i64 (((j + 1 : Nat) : Int))) hA rfl rfl rfl (does_bin rfl rfl (ar_add ((in_i64 (by omega) (by omega)).trans (by omega)))) ?_
       intro a hA
       refine seq_do hA rfl rfl rfl (does_assign rfl) ?_
       intro a hA
       refine seq_end ?_
       replace hM : Mg w w94 (.row 9 1 (.slice so95 ((xs ++ [sx84]).length) ca96) ((xs ++ [sx84]).length) (strC (xs ++ [sx84])) :: .row 9 1 (.slice so28 ((memS l bs).length) ca29) ((memS l bs).length) (strC (memS l bs)) :: .obj g24 (.cells #[.slice none 0 0, .slice none 0 0] 25) :: .obj g18 (.cells #[.slice so10 l.length ca11, .slice si12 q14.length ci13] 25) :: .row 9 1 (.slice so10 l.length ca11) l.length (strC l) :: .row 4 1 (.slice si12 q14.length ci13) q14.length (boolC q14) :: .obj g3 (.cells #[.slice so l.length ca, .slice si bs.length ci] 25) :: []) := by
         have h9 := hM.sub (.cons _ (.cons_cons _ (.cons_cons _ (.cons_cons _ (.cons_cons _ (.cons_cons _ (.cons_cons _ (.cons_cons _ (.refl _)))))))))
         exact h9
       refine hK75 _ _ _ (by omega) ⟨j + 1, xs ++ [sx84], so95, ca96, rfl, ⟨by omega, by rw [fil_step hi87, ← hxs]; simp [hb90]⟩, hA.keep _ ⟨rfl, rfl, rfl, rfl, rfl, rfl, rfl, rfl, rfl, rfl, rfl, rfl, rfl, rfl, rfl, rfl, rfl, rfl, rfl, rfl, rfl, rfl, rfl, rfl, rfl, rfl, rfl, rfl, rfl, rfl, rfl, rfl, rfl, rfl, rfl, rfl, rfl, rfl, rfl, rfl, rfl, rfl, rfl, rfl, rfl, rfl, rfl, rfl, rfl, rfl, rfl, rfl, rfl, rfl, rfl, rfl, rfl, rfl, rfl, rfl, rfl, rfl, rfl, rfl, rfl, rfl, rfl, rfl, rfl, rfl, rfl, rfl, rfl, rfl, rfl, rfl, trivial⟩, hM⟩
     · have hb90' := of_decide_eq_false hb90
       refine seq_do (v := .bool false) hA rfl rfl rfl (does_bin rfl rfl (fun w => (bin_geq w).trans (by rw [hb90]))) ?_
       intro a hA
       refine seq_end ?_
       refine hK81 _ _ ?_
       refine wp_cond_false (hA.ev rfl) ?_
       refine wp_skip ?_
       refine hK80 _ _ ?_
       refine wp_region_lit ?_
       refine seq_do hA rfl rfl rfl (does_move rfl) ?_
       intro a hA
       refine seq_do (v := .int .i64 (((j + 1 : Nat) : Int))) hA rfl rfl rfl (does_bin rfl rfl (ar_add ((in_i64 (by omega) (by omega)).trans (by omega)))) ?_
       intro a hA
       refine seq_do hA rfl rfl rfl (does_assign rfl) ?_
       intro a hA
       refine seq_end ?_
       refine hK75 _ _ _ (by omega) ⟨j + 1, xs, so_, ca_, rfl, ⟨by omega, by rw [fil_step hi87, ← hxs]; simp [hb90]⟩, hA.keep _ ⟨rfl, rfl, rfl, rfl, rfl, rfl, rfl, rfl, rfl, rfl, rfl, rfl, rfl, rfl, rfl, rfl, rfl, rfl, rfl, rfl, rfl, rfl, rfl, rfl, rfl, rfl, rfl, rfl, rfl, rfl, rfl, rfl, rfl, rfl, rfl, rfl, rfl, rfl, rfl, rfl, rfl, rfl, rfl, rfl, rfl, rfl, rfl, rfl, rfl, rfl, rfl, rfl, rfl, rfl, rfl, rfl, rfl, rfl, rfl, rfl, rfl, rfl, rfl, rfl, rfl, rfl, rfl, rfl, rfl, rfl, rfl, rfl, rfl, rfl, rfl, rfl, trivial⟩, hM⟩
   · have hc79' := of_decide_eq_false hc79
     refine wp_exit ?_
     refine hK72 _ _ ?_
     refine wp_seq_k (fun K97 hK97 => ?_)
     refine wp_region_lit ?_
     refine seq_do hA rfl rfl rfl (does_move rfl) ?_
     intro a hA
     refine seq_do hA rfl rfl rfl (does_move rfl) ?_
     intro a hA
     refine seq_call hA rfl rfl rfl (enters_func rfl rfl (fun w => by kernel_rfl)) (place_any (hR.below hM.bel) hl) ?_
     rintro _ w99 ⟨rfl, hb98⟩
     replace hM := hM.call hb98
     refine ⟨_, rfl, ?_⟩
     intro a hA
     refine seq_do hA rfl rfl rfl (does_assign rfl) ?_
     intro a hA
     refine seq_end ?_
     refine hK97 _ _ ?_
     refine wp_seq_k (fun K100 hK100 => ?_)
     refine wp_region_lit ?_
     refine seq_do hA rfl rfl rfl (does_move rfl) ?_
     intro a hA
     refine seq_do hA rfl rfl rfl (does_move rfl) ?_
     intro a hA
     refine seq_skip hA rfl rfl rfl ?_
     intro a hA
     refine seq_skip hA rfl rfl rfl ?_
     intro a hA
     refine seq_skip hA rfl rfl rfl ?_
     intro a hA
     refine seq_skip hA rfl rfl rfl ?_
     intro a hA
     refine seq_skip hA rfl rfl rfl ?_
     intro a hA
     refine seq_do (v := .bool false) hA rfl rfl rfl (does_pick rfl rfl rfl rfl) ?_
     intro a hA
     refine seq_do hA rfl rfl rfl (does_move rfl) ?_
     intro a hA
     refine seq_do hA rfl rfl rfl (does_move rfl) ?_
     intro a hA
     refine seq_do (v := .bool true) hA rfl rfl rfl (does_un rfl un_not) ?_
     intro a hA
     refine seq_do hA rfl rfl rfl (does_move rfl) ?_
     intro a hA
     refine seq_do hA rfl rfl rfl (does_move rfl) ?_
     intro a hA
     refine seq_do (v := .bool true) hA rfl rfl rfl (does_bin rfl rfl (fun w => by kernel_rfl)) ?_
     intro a hA
     refine seq_do (v := .bool true) hA rfl rfl rfl (does_pick rfl rfl rfl rfl) ?_
     intro a hA
     refine seq_do (v := .bool true) hA rfl rfl rfl (does_pick rfl rfl rfl rfl) ?_
     intro a hA
     refine seq_do hA rfl rfl rfl (does_move rfl) ?_
     intro a hA
     refine seq_do hA rfl rfl rfl (does_move rfl) ?_
     intro a hA
     refine seq_do (v := .bool true) hA rfl rfl rfl (does_bin rfl rfl (fun w => by kernel_rfl)) ?_
     intro a hA
     refine seq_do (v := .bool true) hA rfl rfl rfl (does_pick rfl rfl rfl rfl) ?_
     intro a hA
     refine seq_do hA rfl rfl rfl (does_move rfl) ?_
     intro a hA
     refine seq_do hA rfl rfl rfl (does_move rfl) ?_
     intro a hA
     refine seq_do hA rfl rfl rfl (does_move rfl) ?_
     intro a hA
     refine seq_do hA rfl rfl rfl (does_move rfl) ?_
     intro a hA
     refine seq_call hA rfl rfl rfl (enters_func rfl rfl (fun w => by kernel_rfl)) (lmembers_any (hR.below hM.bel) (hB.below hM.bel) (by omega)) ?_
     rintro _ w104 ⟨so101, ca102, rfl, hM103⟩
     replace hM : Mg w w104 (.row 9 1 (.slice so101 ((memS l bs).length) ca102) ((memS l bs).length) (strC (memS l bs)) :: .row 9 1 (.slice so_ xs.length ca_) xs.length (strC xs) :: .row 9 1 (.slice so28 ((memS l bs).length) ca29) ((memS l bs).length) (strC (memS l bs)) :: .obj g24 (.cells #[.slice none 0 0, .slice none 0 0] 25) :: .obj g18 (.cells #[.slice so10 l.length ca11, .slice si12 q14.length ci13] 25) :: .row 9 1 (.slice so10 l.length ca11) l.length (strC l) :: .row 4 1 (.slice si12 q14.length ci13) q14.length (boolC q14) :: .obj g3 (.cells #[.slice so l.length ca, .slice si bs.length ci] 25) :: []) := (hM.both hM103 (noBld_cons (by simp) (noBld_cons (by simp) (noBld_cons (by simp) (noBld_cons (by simp) (noBld_cons (by simp) (noBld_cons (by simp) (noBld_cons (by simp) (noBld_quiet quietL_nil)))))))) (noBld_cons (by simp) (noBld_quiet quietL_nil)))
     refine ⟨_, rfl, ?_⟩
     intro a hA
     refine seq_call hA rfl rfl rfl (enters_func rfl rfl (fun w => by kernel_rfl)) (sameT_as (rc_own (hM.has 2 rfl)) (by have := memS_len l bs; omega) (rc_own (hM.has 0 rfl)) (by have := memS_len l bs; omega) (decide_eq_true rfl)) ?_
     rintro _ w106 ⟨rfl, hb105⟩
     replace hM := hM.call hb105
     refine ⟨_, rfl, ?_⟩
     intro a hA
     refine seq_do (v := .bool true) hA rfl rfl rfl (does_pick rfl rfl rfl rfl) ?_
     intro a hA
     refine seq_do hA rfl rfl rfl (does_move rfl) ?_
     intro a hA
     refine seq_do hA rfl rfl rfl (does_move rfl) ?_
     intro a hA
     refine seq_do (v := .bool true) hA rfl rfl rfl (does_bin rfl rfl (fun w => (bin_geq w).trans (by rw [show (decide (0 ≤ idxOfS l s)) = true from (decide_eq_true hx)]))) ?_
     intro a hA
     refine seq_do hA rfl rfl rfl (does_move rfl) ?_
     intro a hA
     refine seq_do hA rfl rfl rfl (does_move rfl) ?_
     intro a hA
     refine seq_do (v := .bool true) hA rfl rfl rfl (does_bin rfl rfl (fun w => by kernel_rfl)) ?_
     intro a hA
     refine seq_do (v := .bool true) hA rfl rfl rfl (does_pick rfl rfl rfl rfl) ?_
     intro a hA
     refine seq_do hA rfl rfl rfl (does_move rfl) ?_
     intro a hA
     refine seq_do hA rfl rfl rfl (does_move rfl) ?_
     intro a hA
     refine seq_do hA rfl rfl rfl (does_move rfl) ?_
     intro a hA
     refine seq_do (v := .bool true) hA rfl rfl rfl (does_bin rfl rfl (fun w => (bin_eql w).trans (by rw [show ((idxOfS l s == idxOfS l s)) = true from (beq_self_eq_true _)]))) ?_
     intro a hA
     refine seq_do (v := .bool true) hA rfl rfl rfl (does_pick rfl rfl rfl rfl) ?_
     intro a hA
     refine seq_do hA rfl rfl rfl (does_move rfl) ?_
     intro a hA
     refine seq_skip hA rfl rfl rfl ?_
     intro a hA
     refine seq_skip hA rfl rfl rfl ?_
     intro a hA
     refine seq_skip hA rfl rfl rfl ?_
     intro a hA
     refine seq_skipU hA rfl rfl rfl ?_
     intro a hA
     refine seq_skipU hA rfl rfl rfl ?_
     intro a hA
     refine seq_skip hA rfl rfl rfl ?_
     intro a hA
     refine seq_skip hA rfl rfl rfl ?_
     intro a hA
     refine seq_skipU hA rfl rfl rfl ?_
     intro a hA
     refine seq_skipU hA rfl rfl rfl ?_
     intro a hA
     refine seq_skip hA rfl rfl rfl ?_
     intro a hA
     refine seq_do (v := .bool true) hA rfl rfl rfl (does_pick rfl rfl rfl rfl) ?_
     intro a hA
     refine seq_do (v := .bool true) hA rfl rfl rfl (does_pick rfl rfl rfl rfl) ?_
     intro a hA
     refine seq_do hA rfl rfl rfl (does_assign rfl) ?_
     intro a hA
     refine seq_end ?_
     refine hK100 _ _ ?_
     refine wp_ret ?_
     refine hret _ _ ?_
     refine ends (v := .bool true) hA rfl (.cons (res_tmp rfl) .nil) rfl ?_
     exact ⟨rfl, hM.bel⟩
set_option maxHeartbeats 1000000 in
theorem made_ok_no {w : World} {so si : Option Addr} {ca ci : Nat} {l : List ByteArray} {bs : List Bool} (hR : Rs w so l) (hB : Rl w si bs) (hl : l.length ≤ 8796093021952) {sy : Option Addr} {cy : Nat} {ys : List ByteArray} (hY : Rs w sy ys) (hly : ys.length ≤ 8796093021952) {s : ByteArray} (hs : ∀ s ∈ l, s.size ≤ 281474976710656) (hsd : sndS l bs = true) (hany : (ys.any fun s => !decide (0 ≤ idxOfS l s)) = false) (hx : idxOfS l s < 0) : Calls Try.prog 3 #[.slice so l.length ca, .slice si bs.length ci, .slice sy ys.length cy, .string s] w fun e w' => e = .returned (.bool true) ∧ Below w.heap.size w w' := by
 have h64 := (snd_le hsd).1
 have hbl := (snd_le hsd).2.1
 have ht : twS l = false := by simpa [twS] using (snd_le hsd).2.2
 have hM : Mg w w ([]) := Mg.start w
 refine walk_of (l := [(0, .slice so l.length ca), (1, .slice si bs.length ci), (2, .slice sy ys.length cy), (3, .string s)]) Try.func3 rfl Try.ntmps3 rfl rfl ?_
 intro Q hret hnorm hP a hA
 refine wp_seq_k (fun K1 hK1 => ?_)
 refine wp_region_lit ?_
 refine seq_do hA rfl rfl rfl (does_assign rfl) ?_
 intro a hA
 refine seq_end ?_
 refine hK1 _ _ ?_
 refine wp_seq_k (fun K2 hK2 => ?_)
 refine wp_region_lit ?_
 refine seq_do hA rfl rfl rfl (does_move rfl) ?_
 intro a hA
 refine seq_do hA rfl rfl rfl (does_move rfl) ?_
 intro a hA
 refine seq_do (v := .agg #[.slice so l.length ca, .slice si bs.length ci]) hA rfl rfl rfl (does_build rfl (fun w => by kernel_rfl)) ?_
 intro a hA
 refine s_new (vs := [.slice none 0 0, .slice none 0 0]) (t := 25) hA hM rfl rfl rfl (fun g => .pointer (some ⟨g, 0, none⟩)) (does_alloc (z := .agg #[.slice none 0 0, .slice none 0 0]) (by kernel_rfl) rfl) (by decide) ?_
 intro g3 w4 hM a hA
 refine s_store (us := [.slice so l.length ca, .slice si bs.length ci]) (L' := (.obj g3 (.cells #[.slice so l.length ca, .slice si bs.length ci] 25) :: [])) hA hM rfl rfl (m_store rfl rfl rfl (by kernel_rfl) hM 0 rfl rfl rfl) 0 rfl rfl rfl ?_
 intro w5 hM
 refine seq_end ?_
 refine hK2 _ _ ?_
 refine wp_seq_k (fun K6 hK6 => ?_)
 refine wp_region_lit ?_
 refine seq_do hA rfl rfl rfl (does_move rfl) ?_
 intro a hA
 refine seq_do hA rfl rfl rfl (does_move rfl) ?_
 intro a hA
 refine seq_call hA rfl rfl rfl (enters_func rfl rfl (fun w => by kernel_rfl)) (rsound_as (hR.below hM.bel) (hB.below hM.bel) hsd) ?_
 rintro _ w8 ⟨rfl, hb7⟩
 replace hM := hM.call hb7
 refine ⟨_, rfl, ?_⟩
 intro a hA
 refine seq_do hA rfl rfl rfl (does_assign rfl) ?_
 intro a hA
 refine seq_end ?_
 refine hK6 _ _ ?_
 refine wp_seq_k (fun K9 hK9 => ?_)
 refine wp_region_lit ?_
 refine seq_do hA rfl rfl rfl (does_move rfl) ?_
 intro a hA
 refine seq_call hA rfl rfl rfl (enters_func rfl rfl (fun w => by kernel_rfl)) (new_okN (hR.below hM.bel) hs ht h64) ?_
 rintro _ w17 ⟨so10, ca11, si12, ci13, q14, hq15, rfl, hM16⟩
 replace hM : Mg w w17 (.row 9 1 (.slice so10 l.length ca11) l.length (strC l) :: .row 4 1 (.slice si12 q14.length ci13) q14.length (boolC q14) :: .obj g3 (.cells #[.slice so l.length ca, .slice si bs.length ci] 25) :: []) := (hM.both hM16 (noBld_cons (by simp) (noBld_quiet quietL_nil)) (noBld_cons (by simp) (noBld_cons (by simp) (noBld_quiet quietL_nil))))
 refine ⟨_, rfl, ?_⟩
 intro a hA
 refine seq_do hA rfl rfl rfl (does_move rfl) ?_
 intro a hA
 refine seq_do (v := .agg #[.slice so10 l.length ca11, .slice si12 q14.length ci13]) hA rfl rfl rfl (does_extract (vs := [.agg #[.slice so10 l.length ca11, .slice si12 q14.length ci13], .int .i64 0]) rfl rfl) ?_
 intro a hA
 refine seq_do (v := .int .i64 0) hA rfl rfl rfl (does_extract (vs := [.agg #[.slice so10 l.length ca11, .slice si12 q14.length ci13], .int .i64 0]) rfl rfl) ?_
 intro a hA
 refine s_new (vs := [.slice none 0 0, .slice none 0 0]) (t := 25) hA hM rfl rfl rfl (fun g => .pointer (some ⟨g, 0, none⟩)) (does_alloc (z := .agg #[.slice none 0 0, .slice none 0 0]) (by kernel_rfl) rfl) (by decide) ?_
 intro g18 w19 hM a hA
 refine s_store (us := [.slice so10 l.length ca11, .slice si12 q14.length ci13]) (L' := (.obj g18 (.cells #[.slice so10 l.length ca11, .slice si12 q14.length ci13] 25) :: .row 9 1 (.slice so10 l.length ca11) l.length (strC l) :: .row 4 1 (.slice si12 q14.length ci13) q14.length (boolC q14) :: .obj g3 (.cells #[.slice so l.length ca, .slice si bs.length ci] 25) :: [])) hA hM rfl rfl (m_store rfl rfl rfl (by kernel_rfl) hM 0 rfl rfl rfl) 0 rfl rfl rfl ?_
 intro w20 hM
 refine seq_do hA rfl rfl rfl (does_assign rfl) ?_
 intro a hA
 refine seq_end ?_
 refine hK9 _ _ ?_
 refine wp_seq_k (fun K21 hK21 => ?_)
 refine wp_region_lit ?_
 refine seq_do hA rfl rfl rfl (m_loadS hM EnG_isS_25 rfl 3 rfl (cs := [.slice so l.length ca, .slice si bs.length ci]) rfl rfl) ?_
 intro a hA
 refine seq_do hA rfl rfl rfl (does_move rfl) ?_
 intro a hA
 refine seq_call hA rfl rfl rfl (enters_func rfl rfl (fun w => by kernel_rfl)) (of_okN (hR.below hM.bel) (hB.below hM.bel) (hY.below hM.bel) hly hs hsd hany) ?_
 rintro _ w29 ⟨so22, ca23, si24, ci25, q26, hq27, rfl, hM28⟩
 replace hM : Mg w w29 (.row 9 1 (.slice so22 l.length ca23) l.length (strC l) :: .row 4 1 (.slice si24 q26.length ci25) q26.length (boolC q26) :: .obj g18 (.cells #[.slice so10 l.length ca11, .slice si12 q14.length ci13] 25) :: .row 9 1 (.slice so10 l.length ca11) l.length (strC l) :: .row 4 1 (.slice si12 q14.length ci13) q14.length (boolC q14) :: .obj g3 (.cells #[.slice so l.length ca, .slice si bs.length ci] 25) :: []) := (hM.both hM28 (noBld_cons (by simp) (noBld_cons (by simp) (noBld_cons (by simp) (noBld_cons (by simp) (noBld_quiet quietL_nil))))) (noBld_cons (by simp) (noBld_cons (by simp) (noBld_quiet quietL_nil))))
 refine ⟨_, rfl, ?_⟩
 intro a hA
 refine seq_do hA rfl rfl rfl (does_move rfl) ?_
 intro a hA
 refine seq_do (v := .agg #[.slice so22 l.length ca23, .slice si24 q26.length ci25]) hA rfl rfl rfl (does_extract (vs := [.agg #[.slice so22 l.length ca23, .slice si24 q26.length ci25], .int .i64 0]) rfl rfl) ?_
 intro a hA
 refine seq_do (v := .int .i64 0) hA rfl rfl rfl (does_extract (vs := [.agg #[.slice so22 l.length ca23, .slice si24 q26.length ci25], .int .i64 0]) rfl rfl) ?_
 intro a hA
 refine s_new (vs := [.slice none 0 0, .slice none 0 0]) (t := 25) hA hM rfl rfl rfl (fun g => .pointer (some ⟨g, 0, none⟩)) (does_alloc (z := .agg #[.slice none 0 0, .slice none 0 0]) (by kernel_rfl) rfl) (by decide) ?_
 intro g30 w31 hM a hA
 refine s_store (us := [.slice so22 l.length ca23, .slice si24 q26.length ci25]) (L' := (.obj g30 (.cells #[.slice so22 l.length ca23, .slice si24 q26.length ci25] 25) :: .row 9 1 (.slice so22 l.length ca23) l.length (strC l) :: .row 4 1 (.slice si24 q26.length ci25) q26.length (boolC q26) :: .obj g18 (.cells #[.slice so10 l.length ca11, .slice si12 q14.length ci13] 25) :: .row 9 1 (.slice so10 l.length ca11) l.length (strC l) :: .row 4 1 (.slice si12 q14.length ci13) q14.length (boolC q14) :: .obj g3 (.cells #[.slice so l.length ca, .slice si bs.length ci] 25) :: [])) hA hM rfl rfl (m_store rfl rfl rfl (by kernel_rfl) hM 0 rfl rfl rfl) 0 rfl rfl rfl ?_
 intro w32 hM
 refine seq_do hA rfl rfl rfl (does_assign rfl) ?_
 intro a hA
 refine seq_end ?_
 refine hK21 _ _ ?_
 refine wp_seq_k (fun K33 hK33 => ?_)
 refine wp_region_lit ?_
 refine seq_do hA rfl rfl rfl (m_loadS hM EnG_isS_25 rfl 6 rfl (cs := [.slice so l.length ca, .slice si bs.length ci]) rfl rfl) ?_
 intro a hA
 refine seq_call hA rfl rfl rfl (enters_func rfl rfl (fun w => by kernel_rfl)) (list_ok (hR.below hM.bel) (hB.below hM.bel) hs hsd) ?_
 rintro _ w37 ⟨so34, ca35, rfl, hM36⟩
 replace hM : Mg w w37 (.row 9 1 (.slice so34 ((memS l bs).length) ca35) ((memS l bs).length) (strC (memS l bs)) :: .obj g30 (.cells #[.slice so22 l.length ca23, .slice si24 q26.length ci25] 25) :: .row 9 1 (.slice so22 l.length ca23) l.length (strC l) :: .row 4 1 (.slice si24 q26.length ci25) q26.length (boolC q26) :: .obj g18 (.cells #[.slice so10 l.length ca11, .slice si12 q14.length ci13] 25) :: .row 9 1 (.slice so10 l.length ca11) l.length (strC l) :: .row 4 1 (.slice si12 q14.length ci13) q14.length (boolC q14) :: .obj g3 (.cells #[.slice so l.length ca, .slice si bs.length ci] 25) :: []) := (hM.both hM36 (noBld_cons (by simp) (noBld_cons (by simp) (noBld_cons (by simp) (noBld_cons (by simp) (noBld_cons (by simp) (noBld_cons (by simp) (noBld_cons (by simp) (noBld_quiet quietL_nil)))))))) (noBld_cons (by simp) (noBld_quiet quietL_nil)))
 refine ⟨_, rfl, ?_⟩
 intro a hA
 refine seq_do hA rfl rfl rfl (does_move rfl) ?_
 intro a hA
 refine seq_do (v := .slice so34 ((memS l bs).length) ca35) hA rfl rfl rfl (does_extract (vs := [.slice so34 ((memS l bs).length) ca35, .int .i64 0]) rfl rfl) ?_
 intro a hA
 refine seq_do (v := .int .i64 0) hA rfl rfl rfl (does_extract (vs := [.slice so34 ((memS l bs).length) ca35, .int .i64 0]) rfl rfl) ?_
 intro a hA
 refine seq_do hA rfl rfl rfl (does_assign rfl) ?_
 intro a hA
 refine seq_do hA rfl rfl rfl (does_assign rfl) ?_
 intro a hA
 refine seq_end ?_
 refine hK33 _ _ ?_
 refine wp_seq_k (fun K38 hK38 => ?_)
 refine wp_region_lit ?_
 refine seq_do hA rfl rfl rfl (m_loadS hM EnG_isS_25 rfl 7 rfl (cs := [.slice so l.length ca, .slice si bs.length ci]) rfl rfl) ?_
 intro a hA
 refine seq_do hA rfl rfl rfl (does_move rfl) ?_
 intro a hA
 refine seq_call hA rfl rfl rfl (enters_func rfl rfl (fun w => by kernel_rfl)) (index_none (hR.below hM.bel) (hB.below hM.bel) hsd hx) ?_
 rintro _ w40 ⟨rfl, hb39⟩
 replace hM := hM.call hb39
 refine ⟨_, rfl, ?_⟩
 intro a hA
 refine seq_do hA rfl rfl rfl (does_move rfl) ?_
 intro a hA
 refine seq_do (v := .int .i64 0) hA rfl rfl rfl (does_extract (vs := [.int .i64 0, .int .i64 7]) rfl rfl) ?_
 intro a hA
 refine seq_do (v := .int .i64 7) hA rfl rfl rfl (does_extract (vs := [.int .i64 0, .int .i64 7]) rfl rfl) ?_
 intro a hA
 refine seq_do hA rfl rfl rfl (does_assign rfl) ?_
 intro a hA
 refine seq_do hA rfl rfl rfl (does_assign rfl) ?_
 intro a hA
 refine seq_end ?_
 refine hK38 _ _ ?_
 refine wp_seq_k (fun K41 hK41 => ?_)
 refine wp_seq_k (fun K42 hK42 => ?_)
 refine wp_region_lit ?_
 refine seq_call hA rfl rfl rfl (enters_func rfl rfl (fun w => by kernel_rfl)) (awake_any) ?_
 rintro _ w44 ⟨rfl, hb43⟩
 replace hM := hM.call hb43
 refine ⟨_, rfl, ?_⟩
 intro a hA
 refine seq_do (v := .bool false) hA rfl rfl rfl (does_un rfl un_not) ?_
 intro a hA
 refine seq_do hA rfl rfl rfl (does_move rfl) ?_
 intro a hA
 refine seq_do hA rfl rfl rfl (m_loadS hM EnG_isS_25 rfl 7 rfl (cs := [.slice so l.length ca, .slice si bs.length ci]) rfl rfl) ?_
 intro a hA
 refine seq_call hA rfl rfl rfl (enters_func rfl rfl (fun w => by kernel_rfl)) (sound_as (hR.below hM.bel) (hB.below hM.bel) hsd) ?_
 rintro _ w46 ⟨rfl, hb45⟩
 replace hM := hM.call hb45
 refine ⟨_, rfl, ?_⟩
 intro a hA
 refine seq_do hA rfl rfl rfl (does_move rfl) ?_
 intro a hA
 refine seq_do (v := .bool false) hA rfl rfl rfl (does_bin rfl rfl (bin_neqB Try.underlying4)) ?_
 intro a hA
 refine seq_do (v := .bool false) hA rfl rfl rfl (does_pick rfl rfl rfl rfl) ?_
 intro a hA
 refine seq_end ?_
 refine hK42 _ _ ?_
 refine wp_cond_false (hA.ev rfl) ?_
 refine wp_skip ?_
 refine hK41 _ _ ?_
 refine wp_seq_k (fun K47 hK47 => ?_)
 refine wp_block ?_
 refine wp_seq_k (fun K48 hK48 => ?_)
 refine wp_region_lit ?_
 refine seq_do hA rfl rfl rfl (does_move rfl) ?_
 intro a hA
 refine seq_call hA rfl rfl rfl (enters_func rfl rfl (fun w => by kernel_rfl)) (rtwice_as (hR.below hM.bel) hl ht) ?_
 rintro _ w50 ⟨rfl, hb49⟩
 replace hM := hM.call hb49
 refine ⟨_, rfl, ?_⟩
 intro a hA
 refine seq_do hA rfl rfl rfl (does_assign rfl) ?_
 intro a hA
 refine seq_end ?_
 refine hK48 _ _ ?_
 refine wp_cond_false (hA.ev rfl) ?_
 refine wp_seq_k (fun K51 hK51 => ?_)
 refine wp_region_lit ?_
 refine seq_do hA rfl rfl rfl (does_move rfl) ?_
 intro a hA
 refine seq_do (v := .int .i64 (((l.length : Nat) : Int))) hA rfl rfl rfl (does_len Try.underlying22 rfl) ?_
 intro a hA
 refine seq_do (v := .bool false) hA rfl rfl rfl (does_bin rfl rfl (fun w => (bin_gtr w).trans (by rw [show (decide (64 < ((l.length : Nat) : Int))) = false from (decide_eq_false (by omega))]))) ?_
 intro a hA
 refine seq_do hA rfl rfl rfl (does_assign rfl) ?_
 intro a hA
 refine seq_end ?_
 refine hK51 _ _ ?_
 refine wp_cond_false (hA.ev rfl) ?_
 refine wp_seq_k (fun K52 hK52 => ?_)
 refine wp_region_lit ?_
 refine seq_do hA rfl rfl rfl (m_loadS hM EnG_isS_25 rfl 4 rfl (cs := [.slice so10 l.length ca11, .slice si12 q14.length ci13]) rfl rfl) ?_
 intro a hA
 refine seq_do hA rfl rfl rfl (does_move rfl) ?_
 intro a hA
 refine seq_do hA rfl rfl rfl (does_move rfl) ?_
 intro a hA
 refine seq_do hA rfl rfl rfl (does_move rfl) ?_
 intro a hA
 refine seq_call hA rfl rfl rfl (enters_func rfl rfl (fun w => by kernel_rfl)) (is_any (rc_own (hM.has 5 rfl)) (rc_own (hM.has 6 rfl)) (hR.below hM.bel) (hR.below hM.bel) (by omega) (snd_map hsd hq15) (by rw [hq15, mem_map]; simp)) ?_
 rintro _ w54 ⟨rfl, hb53⟩
 replace hM := hM.call hb53
 refine ⟨_, rfl, ?_⟩
 intro a hA
 refine seq_do (v := .bool false) hA rfl rfl rfl (does_un rfl un_not) ?_
 intro a hA
 refine seq_do hA rfl rfl rfl (does_assign rfl) ?_
 intro a hA
 refine seq_end ?_
 refine hK52 _ _ ?_
 refine wp_cond_false (hA.ev rfl) ?_
 refine wp_skip ?_
 refine hK47 _ _ ?_
 refine wp_seq_k (fun K55 hK55 => ?_)
 refine wp_seq_k (fun K56 hK56 => ?_)
 refine wp_region_lit ?_
 refine seq_do hA rfl rfl rfl (does_move rfl) ?_
 intro a hA
 refine seq_do (v := .bool false) hA rfl rfl rfl (does_un rfl un_not) ?_
 intro a hA
 refine seq_end ?_
 refine hK56 _ _ ?_
 refine wp_cond_false (hA.ev rfl) ?_
 refine wp_skip ?_
 refine hK55 _ _ ?_
 refine wp_seq_k (fun K57 hK57 => ?_)
 refine wp_region_lit ?_
 refine seq_do hA rfl rfl rfl (does_assign rfl) ?_
 intro a hA
 refine seq_end ?_
 refine hK57 _ _ ?_
 refine wp_seq_k (fun K58 hK58 => ?_)
 refine wp_region_lit ?_
 refine s_litE (e := 9) (sz := 1) (m := 0) (vs := strC []) hA hM rfl rfl rfl (does_buildSlice rfl (by kernel_rfl)) rfl rfl (.inl (by decide)) ?_
 intro g59 w60 hM a hA
 refine seq_do hA rfl rfl rfl (does_assign rfl) ?_
 intro a hA
 refine seq_end ?_
 refine hK58 _ _ ?_
 refine wp_seq_k (fun K61 hK61 => ?_)
 refine wp_seq_k (fun K62 hK62 => ?_)
 refine wp_region_lit ?_
 refine seq_do hA rfl rfl rfl (does_assign rfl) ?_
 intro a hA
 refine seq_end ?_
 refine hK62 _ _ ?_
 refine wp_block ?_
 refine wp_loop_n (fun m_ a w1 => ∃ (i : Nat) (kf : Bool), m_ = 1 + (ys.length - i) ∧ (i ≤ ys.length ∧ kf = (ys.take i).all (fun s => decide (0 ≤ idxOfS l s))) ∧ Sl a 197 [(0, .slice so l.length ca), (1, .slice si bs.length ci), (2, .slice sy ys.length cy), (3, .string s), (8, .bool false), (9, .pointer (some ⟨g3, 0, none⟩)), (10, .bool true), (11, .pointer (some ⟨g18, 0, none⟩)), (12, .int .i64 0), (13, .pointer (some ⟨g30, 0, none⟩)), (14, .int .i64 0), (15, .slice so34 ((memS l bs).length) ca35), (16, .int .i64 0), (17, .int .i64 0), (18, .int .i64 7), (19, .bool kf), (20, .slice (some ⟨g59, 0, none⟩) 0 0), (21, .int .i64 (((i : Nat) : Int))), (24, .slice so l.length ca), (25, .slice si bs.length ci), (26, .agg #[.slice so l.length ca, .slice si bs.length ci]), (27, .slice so l.length ca), (28, .slice si bs.length ci), (29, .bool true), (30, .tuple #[.agg #[.slice so10 l.length ca11, .slice si12 q14.length ci13], .int .i64 0]), (31, .slice so l.length ca), (32, .tuple #[.agg #[.slice so10 l.length ca11, .slice si12 q14.length ci13], .int .i64 0]), (33, .agg #[.slice so10 l.length ca11, .slice si12 q14.length ci13]), (34, .int .i64 0), (35, .tuple #[.agg #[.slice so22 l.length ca23, .slice si24 q26.length ci25], .int .i64 0]), (36, .agg #[.slice so l.length ca, .slice si bs.length ci]), (37, .slice sy ys.length cy), (38, .tuple #[.agg #[.slice so22 l.length ca23, .slice si24 q26.length ci25], .int .i64 0]), (39, .agg #[.slice so22 l.length ca23, .slice si24 q26.length ci25]), (40, .int .i64 0), (41, .tuple #[.slice so34 ((memS l bs).length) ca35, .int .i64 0]), (42, .agg #[.slice so l.length ca, .slice si bs.length ci]), (43, .tuple #[.slice so34 ((memS l bs).length) ca35, .int .i64 0]), (44, .slice so34 ((memS l bs).length) ca35), (45, .int .i64 0), (46, .tuple #[.int .i64 0, .int .i64 7]), (47, .agg #[.slice so l.length ca, .slice si bs.length ci]), (48, .string s), (49, .tuple #[.int .i64 0, .int .i64 7]), (50, .int .i64 0), (51, .int .i64 7), (52, .bool true), (53, .bool false), (54, .bool false), (55, .agg #[.slice so l.length ca, .slice si bs.length ci]), (56, .bool true), (57, .bool true), (58, .bool false), (59, .bool false), (60, .bool false), (61, .slice so l.length ca), (62, .bool false), (65, .bool false), (66, .slice so l.length ca), (67, .int .i64 (((l.length : Nat) : Int))), (68, .bool false), (71, .bool false), (72, .agg #[.slice so10 l.length ca11, .slice si12 q14.length ci13]), (73, .int .i64 0), (74, .slice so l.length ca), (75, .slice so l.length ca), (76, .bool true), (77, .bool false), (78, .bool true), (79, .bool false), (105, .slice (some ⟨g59, 0, none⟩) 0 0)] ∧ Mg w w1 (.row 9 1 (.slice (some ⟨g59, 0, none⟩) 0 0) 0 (strC []) :: .row 9 1 (.slice so34 ((memS l bs).length) ca35) ((memS l bs).length) (strC (memS l bs)) :: .obj g30 (.cells #[.slice so22 l.length ca23, .slice si24 q26.length ci25] 25) :: .row 9 1 (.slice so22 l.length ca23) l.length (strC l) :: .row 4 1 (.slice si24 q26.length ci25) q26.length (boolC q26) :: .obj g18 (.cells #[.slice so10 l.length ca11, .slice si12 q14.length ci13] 25) :: .row 9 1 (.slice so10 l.length ca11) l.length (strC l) :: .row 4 1 (.slice si12 q14.length ci13) q14.length (boolC q14) :: .obj g3 (.cells #[.slice so l.length ca, .slice si bs.length ci] 25) :: [])) _ ⟨0, true, rfl, ⟨Nat.zero_le _, rfl⟩, hA.keep _ ⟨rfl, rfl, rfl, rfl, rfl, rfl, rfl, rfl, rfl, rfl, rfl, rfl, rfl, rfl, rfl, rfl, rfl, rfl, rfl, rfl, rfl, rfl, rfl, rfl, rfl, rfl, rfl, rfl, rfl, rfl, rfl, rfl, rfl, rfl, rfl, rfl, rfl, rfl, rfl, rfl, rfl, rfl, rfl, rfl, rfl, rfl, rfl, rfl, rfl, rfl, rfl, rfl, rfl, rfl, rfl, rfl, rfl, rfl, rfl, rfl, rfl, rfl, rfl, rfl, rfl, rfl, rfl, rfl, rfl, rfl, rfl, trivial⟩, hM⟩ ?_
 clear hM hA
 rintro m_ a w63 ⟨i, kf, rfl, hinv65, hA, hM⟩ K64 hK64
 obtain ⟨hi0, hkf⟩ := hinv65
 refine wp_seq_k (fun K66 hK66 => ?_)
 refine wp_seq_k (fun K67 hK67 => ?_)
 refine wp_region_lit ?_
 refine seq_do hA rfl rfl rfl (does_move rfl) ?_
 intro a hA
 refine seq_do hA rfl rfl rfl (does_move rfl) ?_
 intro a hA
 refine seq_do (v := .int .i64 (((ys.length : Nat) : Int))) hA rfl rfl rfl (does_len Try.underlying22 rfl) ?_
 intro a hA
 refine seq_do (v := .bool (decide (((i : Nat) : Int) < ((ys.length : Nat) : Int)))) hA rfl rfl rfl (does_bin rfl rfl bin_lss) ?_
 intro a hA
 refine seq_end ?_
 refine hK67 _ _ ?_
 refine wp_cond_split (t := decide (((i : Nat) : Int) < ((ys.length : Nat) : Int))) (hA.ev rfl) (fun hc68 => ?_) (fun hc68 => ?_)
 · have hc68' := of_decide_eq_true hc68
   refine wp_skip ?_
   refine hK66 _ _ ?_
   refine wp_seq_k (fun K69 hK69 => ?_)
   refine wp_block ?_
   refine wp_region_lit ?_
   refine seq_do hA rfl rfl rfl (does_move rfl) ?_
   intro a hA
   refine seq_do hA rfl rfl rfl (does_move rfl) ?_
   intro a hA
   rcases kf with _ | _
   · refine seq_skip hA rfl rfl rfl ?_
     intro a hA
     refine seq_skip hA rfl rfl rfl ?_
     intro a hA
     refine seq_skip hA rfl rfl rfl ?_
     intro a hA
     refine seq_skip hA rfl rfl rfl ?_
     intro a hA
     refine seq_skip hA rfl rfl rfl ?_
     intro a hA
     refine seq_skip hA rfl rfl rfl ?_
     intro a hA
     refine seq_skip hA rfl rfl rfl ?_
     intro a hA
     refine seq_do (v := .bool false) hA rfl rfl rfl (does_pick rfl rfl rfl rfl) ?_
     intro a hA
     refine seq_do hA rfl rfl rfl (does_assign rfl) ?_
     intro a hA
     refine seq_end ?_
     refine hK69 _ _ ?_
     refine wp_region_lit ?_
     refine seq_do hA rfl rfl rfl (does_move rfl) ?_
     intro a hA
     refine seq_do (v := .int .i64 (((i + 1 : Nat) : Int))) hA rfl rfl rfl (does_bin rfl rfl (ar_add ((in_i64 (by omega) (by omega)).trans (by omega)))) ?_
     intro a hA
     refine seq_do hA rfl rfl rfl (does_assign rfl) ?_
     intro a hA
     refine seq_end ?_
     refine hK64 _ _ _ (by omega) ⟨i + 1, false, rfl, ⟨by omega, by rw [List.take_add_one, List.all_append, ← hkf]; rfl⟩, hA.keep _ ⟨rfl, rfl, rfl, rfl, rfl, rfl, rfl, rfl, rfl, rfl, rfl, rfl, rfl, rfl, rfl, rfl, rfl, rfl, rfl, rfl, rfl, rfl, rfl, rfl, rfl, rfl, rfl, rfl, rfl, rfl, rfl, rfl, rfl, rfl, rfl, rfl, rfl, rfl, rfl, rfl, rfl, rfl, rfl, rfl, rfl, rfl, rfl, rfl, rfl, rfl, rfl, rfl, rfl, rfl, rfl, rfl, rfl, rfl, rfl, rfl, rfl, rfl, rfl, rfl, rfl, rfl, rfl, rfl, rfl, rfl, rfl, trivial⟩, hM⟩
   · refine seq_do hA rfl rfl rfl (does_move rfl) ?_
     intro a hA
     refine seq_do hA rfl rfl rfl (does_move rfl) ?_
     intro a hA
     refine seq_do hA rfl rfl rfl (does_move rfl) ?_
     intro a hA
     obtain ⟨bx70, ox71, sx72, hs73, hc74, hi75⟩ := hY.at_ (i := i) (by omega)
     refine seq_do (v := .pointer (some ⟨bx70, ox71 + i, none⟩)) hA rfl rfl rfl (does_indexRow (k := i) Try.underlying22 (by kernel_rfl) rfl rfl (by first | rfl | omega) hs73 (by omega)) ?_
     intro a hA
     refine seq_do hA rfl rfl rfl (m_loadX hM hc74 EnG_is1_9 rfl) ?_
     intro a hA
     refine seq_call hA rfl rfl rfl (enters_func rfl rfl (fun w => by kernel_rfl)) (place_any (hR.below hM.bel) hl) ?_
     rintro _ w77 ⟨rfl, hb76⟩
     replace hM := hM.call hb76
     refine ⟨_, rfl, ?_⟩
     intro a hA
     refine seq_do (v := .bool (decide (0 ≤ idxOfS l sx72))) hA rfl rfl rfl (does_bin rfl rfl bin_geq) ?_
     intro a hA
     refine seq_do (v := .bool (decide (0 ≤ idxOfS l sx72))) hA rfl rfl rfl (does_pick rfl rfl rfl rfl) ?_
     intro a hA
     refine seq_do hA rfl rfl rfl (does_assign rfl) ?_
     intro a hA
     refine seq_end ?_
     refine hK69 _ _ ?_
     refine wp_region_lit ?_
     refine seq_do hA rfl rfl rfl (does_move rfl) ?_
     intro a hA
     refine seq_do (v := .int .i64 (((i + 1 : Nat) : Int))) hA rfl rfl rfl (does_bin rfl rfl (ar_add ((in_i64 (by omega) (by omega)).trans (by omega)))) ?_
     intro a hA
     refine seq_do hA rfl rfl rfl (does_assign rfl) ?_
     intro a hA
     refine seq_end ?_
     refine hK64 _ _ _ (by omega) ⟨i + 1, decide (0 ≤ idxOfS l sx72), rfl, ⟨by omega, by rw [List.take_add_one, hi75, List.all_append, ← hkf]; simp⟩, hA.keep _ ⟨rfl, rfl, rfl, rfl, rfl, rfl, rfl, rfl, rfl, rfl, rfl, rfl, rfl, rfl, rfl, rfl, rfl, rfl, rfl, rfl, rfl, rfl, rfl, rfl, rfl, rfl, rfl, rfl, rfl, rfl, rfl, rfl, rfl, rfl, rfl, rfl, rfl, rfl, rfl, rfl, rfl, rfl, rfl, rfl, rfl, rfl, rfl, rfl, rfl, rfl, rfl, rfl, rfl, rfl, rfl, rfl, rfl, rfl, rfl, rfl, rfl, rfl, rfl, rfl, rfl, rfl, rfl, rfl, rfl, rfl, rfl, trivial⟩, hM⟩
 · have hc68' := of_decide_eq_false hc68
   refine wp_exit ?_
   refine hK61 _ _ ?_
   refine wp_seq_k (fun K78 hK78 => ?_)
   refine wp_seq_k (fun K79 hK79 => ?_)
   obtain rfl : kf = true := by rw [hkf, List.take_of_length_le (show ys.length ≤ i by omega), all_any, hany]; rfl
   refine wp_region_lit ?_
   refine seq_do hA rfl rfl rfl (does_assign rfl) ?_
   intro a hA
   refine seq_end ?_
   refine hK79 _ _ ?_
   refine wp_block ?_
   refine wp_loop_n (fun m_ a w1 => ∃ (j : Nat) (xs : List ByteArray) (so_ : Option Addr) (ca_ : Nat), m_ = 1 + (l.length - j) ∧ (j ≤ l.length ∧ xs = (l.take j).filter (fun s => decide (0 ≤ idxOfS ys s))) ∧ Sl a 197 [(0, .slice so l.length ca), (1, .slice si bs.length ci), (2, .slice sy ys.length cy), (3, .string s), (8, .bool false), (9, .pointer (some ⟨g3, 0, none⟩)), (10, .bool true), (11, .pointer (some ⟨g18, 0, none⟩)), (12, .int .i64 0), (13, .pointer (some ⟨g30, 0, none⟩)), (14, .int .i64 0), (15, .slice so34 ((memS l bs).length) ca35), (16, .int .i64 0), (17, .int .i64 0), (18, .int .i64 7), (19, .bool true), (20, .slice so_ xs.length ca_), (21, .int .i64 (((i : Nat) : Int))), (22, .int .i64 (((j : Nat) : Int))), (24, .slice so l.length ca), (25, .slice si bs.length ci), (26, .agg #[.slice so l.length ca, .slice si bs.length ci]), (27, .slice so l.length ca), (28, .slice si bs.length ci), (29, .bool true), (30, .tuple #[.agg #[.slice so10 l.length ca11, .slice si12 q14.length ci13], .int .i64 0]), (31, .slice so l.length ca), (32, .tuple #[.agg #[.slice so10 l.length ca11, .slice si12 q14.length ci13], .int .i64 0]), (33, .agg #[.slice so10 l.length ca11, .slice si12 q14.length ci13]), (34, .int .i64 0), (35, .tuple #[.agg #[.slice so22 l.length ca23, .slice si24 q26.length ci25], .int .i64 0]), (36, .agg #[.slice so l.length ca, .slice si bs.length ci]), (37, .slice sy ys.length cy), (38, .tuple #[.agg #[.slice so22 l.length ca23, .slice si24 q26.length ci25], .int .i64 0]), (39, .agg #[.slice so22 l.length ca23, .slice si24 q26.length ci25]), (40, .int .i64 0), (41, .tuple #[.slice so34 ((memS l bs).length) ca35, .int .i64 0]), (42, .agg #[.slice so l.length ca, .slice si bs.length ci]), (43, .tuple #[.slice so34 ((memS l bs).length) ca35, .int .i64 0]), (44, .slice so34 ((memS l bs).length) ca35), (45, .int .i64 0), (46, .tuple #[.int .i64 0, .int .i64 7]), (47, .agg #[.slice so l.length ca, .slice si bs.length ci]), (48, .string s), (49, .tuple #[.int .i64 0, .int .i64 7]), (50, .int .i64 0), (51, .int .i64 7), (52, .bool true), (53, .bool false), (54, .bool false), (55, .agg #[.slice so l.length ca, .slice si bs.length ci]), (56, .bool true), (57, .bool true), (58, .bool false), (59, .bool false), (60, .bool false), (61, .slice so l.length ca), (62, .bool false), (65, .bool false), (66, .slice so l.length ca), (67, .int .i64 (((l.length : Nat) : Int))), (68, .bool false), (71, .bool false), (72, .agg #[.slice so10 l.length ca11, .slice si12 q14.length ci13]), (73, .int .i64 0), (74, .slice so l.length ca), (75, .slice so l.length ca), (76, .bool true), (77, .bool false), (78, .bool true), (79, .bool false), (105, .slice (some ⟨g59, 0, none⟩) 0 0), (106, .int .i64 (((i : Nat) : Int))), (107, .slice sy ys.length cy), (108, .int .i64 (((ys.length : Nat) : Int))), (109, .bool (decide (((i : Nat) : Int) < ((ys.length : Nat) : Int))))] ∧ Mg w w1 (.row 9 1 (.slice so_ xs.length ca_) xs.length (strC xs) :: .row 9 1 (.slice so34 ((memS l bs).length) ca35) ((memS l bs).length) (strC (memS l bs)) :: .obj g30 (.cells #[.slice so22 l.length ca23, .slice si24 q26.length ci25] 25) :: .row 9 1 (.slice so22 l.length ca23) l.length (strC l) :: .row 4 1 (.slice si24 q26.length ci25) q26.length (boolC q26) :: .obj g18 (.cells #[.slice so10 l.length ca11, .slice si12 q14.length ci13] 25) :: .row 9 1 (.slice so10 l.length ca11) l.length (strC l) :: .row 4 1 (.slice si12 q14.length ci13) q14.length (boolC q14) :: .obj g3 (.cells #[.slice so l.length ca, .slice si bs.length ci] 25) :: [])) _ ⟨0, [], _, 0, rfl, ⟨Nat.zero_le _, rfl⟩, hA.keep _ ⟨rfl, rfl, rfl, rfl, rfl, rfl, rfl, rfl, rfl, rfl, rfl, rfl, rfl, rfl, rfl, rfl, rfl, rfl, rfl, rfl, rfl, rfl, rfl, rfl, rfl, rfl, rfl, rfl, rfl, rfl, rfl, rfl, rfl, rfl, rfl, rfl, rfl, rfl, rfl, rfl, rfl, rfl, rfl, rfl, rfl, rfl, rfl, rfl, rfl, rfl, rfl, rfl, rfl, rfl, rfl, rfl, rfl, rfl, rfl, rfl, rfl, rfl, rfl, rfl, rfl, rfl, rfl, rfl, rfl, rfl, rfl, rfl, rfl, rfl, rfl, rfl, trivial⟩, hM⟩ ?_
   clear hM hA
   rintro m_ a w80 ⟨j, xs, so_, ca_, rfl, hinv82, hA, hM⟩ K81 hK81
   obtain ⟨hj0, hxs⟩ := hinv82
   have hLxs : xs.length ≤ j := by rw [hxs]; exact fil_len
   refine wp_seq_k (fun K83 hK83 => ?_)
   refine wp_seq_k (fun K84 hK84 => ?_)
   refine wp_region_lit ?_
   refine seq_do hA rfl rfl rfl (does_move rfl) ?_
   intro a hA
   refine seq_do hA rfl rfl rfl (does_move rfl) ?_
   intro a hA
   refine seq_do (v := .int .i64 (((l.length : Nat) : Int))) hA rfl rfl rfl (does_len Try.underlying22 rfl) ?_
   intro a hA
   refine seq_do (v := .bool (decide (((j : Nat) : Int) < ((l.length : Nat) : Int)))) hA rfl rfl rfl (does_bin rfl rfl bin_lss) ?_
   intro a hA
   refine seq_end ?_
   refine hK84 _ _ ?_
   refine wp_cond_split (t := decide (((j : Nat) : Int) < ((l.length : Nat) : Int))) (hA.ev rfl) (fun hc85 => ?_) (fun hc85 => ?_)
   · have hc85' := of_decide_eq_true hc85
     refine wp_skip ?_
     refine hK83 _ _ ?_
     refine wp_seq_k (fun K86 hK86 => ?_)
     refine wp_block ?_
     refine wp_seq_k (fun K87 hK87 => ?_)
     refine wp_region_lit ?_
     refine seq_do hA rfl rfl rfl (does_move rfl) ?_
     intro a hA
     refine seq_do hA rfl rfl rfl (does_move rfl) ?_
     intro a hA
     refine seq_do hA rfl rfl rfl (does_move rfl) ?_
     intro a hA
     obtain ⟨bx88, ox89, sx90, hs91, hc92, hi93⟩ := hR.at_ (i := j) (by omega)
     refine seq_do (v := .pointer (some ⟨bx88, ox89 + j, none⟩)) hA rfl rfl rfl (does_indexRow (k := j) Try.underlying22 (by kernel_rfl) rfl rfl (by first | rfl | omega) hs91 (by omega)) ?_
     intro a hA
     refine seq_do hA rfl rfl rfl (m_loadX hM hc92 EnG_is1_9 rfl) ?_
     intro a hA
     refine seq_call hA rfl rfl rfl (enters_func rfl rfl (fun w => by kernel_rfl)) (place_any (hY.below hM.bel) hly) ?_
     rintro _ w95 ⟨rfl, hb94⟩
     replace hM := hM.call hb94
     refine ⟨_, rfl, ?_⟩
     intro a hA
     rcases Bool.eq_false_or_eq_true (decide (0 ≤ idxOfS ys sx90)) with hb96 | hb96
     · have hb96' := of_decide_eq_true hb96
       refine seq_do (v := .bool true) hA rfl rfl rfl (does_bin rfl rfl (fun w => (bin_geq w).trans (by rw [hb96]))) ?_
       intro a hA
       refine seq_end ?_
       refine hK87 _ _ ?_
       refine wp_cond_true (hA.ev rfl) ?_
       refine wp_region_lit ?_
       refine seq_do hA rfl rfl rfl (does_move rfl) ?_
       intro a hA
       refine seq_do hA rfl rfl rfl (does_move rfl) ?_
       intro a hA
       refine seq_do hA rfl rfl rfl (does_move rfl) ?_
       intro a hA
       refine seq_do (v := .pointer (some ⟨bx88, ox89 + j, none⟩)) hA rfl rfl rfl (does_indexRow (k := j) Try.underlying22 (by kernel_rfl) rfl rfl (by first | rfl | omega) hs91 (by omega)) ?_
       intro a hA
       refine seq_do hA rfl rfl rfl (m_loadX hM hc92 EnG_is1_9 rfl) ?_
       intro a hA
       refine s_litE (e := 9) (sz := 1) (m := 1) (vs := strC [sx90]) hA hM rfl rfl rfl (does_buildSlice rfl (by kernel_rfl)) rfl rfl (.inl (by decide)) ?_
       intro g97 w98 hM a hA
       refine s_appendE (e := 9) (sz := 1) (k := 1) (q := xs.length) (m := 1) (xs := strC xs) (news := strC [sx90]) (L' := fun v99 => (.row 9 1 (.slice (some ⟨g97, 0, none⟩) 1 1) 1 (strC [sx90]) :: .row 9 1 (v99) (xs.length + 1) (strC xs ++ strC [sx90]) :: .row 9 1 (.slice so34 ((memS l bs).length) ca35) ((memS l bs).length) (strC (memS l bs)) :: .obj g30 (.cells #[.slice so22 l.length ca23, .slice si24 q26.length ci25] 25) :: .row 9 1 (.slice so22 l.length ca23) l.length (strC l) :: .row 4 1 (.slice si24 q26.length ci25) q26.length (boolC q26) :: .obj g18 (.cells #[.slice so10 l.length ca11, .slice si12 q14.length ci13] 25) :: .row 9 1 (.slice so10 l.length ca11) l.length (strC l) :: .row 4 1 (.slice si12 q14.length ci13) q14.length (boolC q14) :: .obj g3 (.cells #[.slice so l.length ca, .slice si bs.length ci] 25) :: [])) hA rfl rfl rfl (m_appX (z := .string ⟨#[]⟩) (sz := 1) (by_ := 16) Try.underlying22 (by kernel_rfl) rfl rfl rfl hM 1 rfl rfl rfl (strC_n [sx90]) (rc_own (hM.has 0 rfl)) (strC_one [sx90]) (by first | omega | (simp only [List.length_nil]; omega))) (fun _ => rfl) ?_
       intro v99 w100 hM a hA
       replace hM : Mg w w100 (.row 9 1 (.slice (some ⟨g97, 0, none⟩) 1 1) 1 (strC [sx90]) :: .row 9 1 (v99) ((xs ++ [sx90]).length) (strC (xs ++ [sx90])) :: .row 9 1 (.slice so34 ((memS l bs).length) ca35) ((memS l bs).length) (strC (memS l bs)) :: .obj g30 (.cells #[.slice so22 l.length ca23, .slice si24 q26.length ci25] 25) :: .row 9 1 (.slice so22 l.length ca23) l.length (strC l) :: .row 4 1 (.slice si24 q26.length ci25) q26.length (boolC q26) :: .obj g18 (.cells #[.slice so10 l.length ca11, .slice si12 q14.length ci13] 25) :: .row 9 1 (.slice so10 l.length ca11) l.length (strC l) :: .row 4 1 (.slice si12 q14.length ci13) q14.length (boolC q14) :: .obj g3 (.cells #[.slice so l.length ca, .slice si bs.length ci] 25) :: []) := by
         rw [← strC_app, List.length_append]; exact hM
       obtain ⟨so101, ca102, rfl⟩ := owns_any (hM.has 1 rfl)
       refine seq_do hA rfl rfl rfl (does_assign rfl) ?_
       intro a hA
       refine seq_end ?_
       refine hK86 _ _ ?_
       refine wp_region_lit ?_
       refine seq_do hA rfl rfl rfl (does_move rfl) ?_
       intro a hA
       refine seq_do (v := .int .i64 (((j + 1 : Nat) : Int))) hA rfl rfl rfl (does_bin rfl rfl (ar_add ((in_i64 (by omega) (by omega)).trans (by omega)))) ?_
       intro a hA
       refine seq_do hA rfl rfl rfl (does_assign rfl) ?_
       intro a hA
       refine seq_end ?_
       replace hM : Mg w w100 (.row 9 1 (.slice so101 ((xs ++ [sx90]).length) ca102) ((xs ++ [sx90]).length) (strC (xs ++ [sx90])) :: .row 9 1 (.slice so34 ((memS l bs).length) ca35) ((memS l bs).length) (strC (memS l bs)) :: .obj g30 (.cells #[.slice so22 l.length ca23, .slice si24 q26.length ci25] 25) :: .row 9 1 (.slice so22 l.length ca23) l.length (strC l) :: .row 4 1 (.slice si24 q26.length ci25) q26.length (boolC q26) :: .obj g18 (.cells #[.slice so10 l.length ca11, .slice si12 q14.length ci13] 25) :: .row 9 1 (.slice so10 l.length ca11) l.length (strC l) :: .row 4 1 (.slice si12 q14.length ci13) q14.length (boolC q14) :: .obj g3 (.cells #[.slice so l.length ca, .slice si bs.length ci] 25) :: []) := by
         have h9 := hM.sub (.cons _ (.cons_cons _ (.cons_cons _ (.cons_cons _ (.cons_cons _ (.cons_cons _ (.cons_cons _ (.cons_cons _ (.cons_cons _ (.cons_cons _ (.refl _)))))))))))
         exact h9
       refine hK81 _ _ _ (by omega) ⟨j + 1, xs ++ [sx90], so101, ca102, rfl, ⟨by omega, by rw [fil_step hi93, ← hxs]; simp [hb96]⟩, hA.keep _ ⟨rfl, rfl, rfl, rfl, rfl, rfl, rfl, rfl, rfl, rfl, rfl, rfl, rfl, rfl, rfl, rfl, rfl, rfl, rfl, rfl, rfl, rfl, rfl, rfl, rfl, rfl, rfl, rfl, rfl, rfl, rfl, rfl, rfl, rfl, rfl, rfl, rfl, rfl, rfl, rfl, rfl, rfl, rfl, rfl, rfl, rfl, rfl, rfl, rfl, rfl, rfl, rfl, rfl, rfl, rfl, rfl, rfl, rfl, rfl, rfl, rfl, rfl, rfl, rfl, rfl, rfl, rfl, rfl, rfl, rfl, rfl, rfl, rfl, rfl, rfl, rfl, trivial⟩, hM⟩
     · have hb96' := of_decide_eq_false hb96
       refine seq_do (v := .bool false) hA rfl rfl rfl (does_bin rfl rfl (fun w => (bin_geq w).trans (by rw [hb96]))) ?_
       intro a hA
       refine seq_end ?_
       refine hK87 _ _ ?_
       refine wp_cond_false (hA.ev rfl) ?_
       refine wp_skip ?_
       refine hK86 _ _ ?_
       refine wp_region_lit ?_
       refine seq_do hA rfl rfl rfl (does_move rfl) ?_
       intro a hA
       refine seq_do (v := .int .i64 (((j + 1 : Nat) : Int))) hA rfl rfl rfl (does_bin rfl rfl (ar_add ((in_i64 (by omega) (by omega)).trans (by omega)))) ?_
       intro a hA
       refine seq_do hA rfl rfl rfl (does_assign rfl) ?_
       intro a hA
       refine seq_end ?_
       refine hK81 _ _ _ (by omega) ⟨j + 1, xs, so_, ca_, rfl, ⟨by omega, by rw [fil_step hi93, ← hxs]; simp [hb96]⟩, hA.keep _ ⟨rfl, rfl, rfl, rfl, rfl, rfl, rfl, rfl, rfl, rfl, rfl, rfl, rfl, rfl, rfl, rfl, rfl, rfl, rfl, rfl, rfl, rfl, rfl, rfl, rfl, rfl, rfl, rfl, rfl, rfl, rfl, rfl, rfl, rfl, rfl, rfl, rfl, rfl, rfl, rfl, rfl, rfl, rfl, rfl, rfl, rfl, rfl, rfl, rfl, rfl, rfl, rfl, rfl, rfl, rfl, rfl, rfl, rfl, rfl, rfl, rfl, rfl, rfl, rfl, rfl, rfl, rfl, rfl, rfl, rfl, rfl, rfl, rfl, rfl, rfl, rfl, trivial⟩, hM⟩
   · have hc85' := of_decide_eq_false hc85
     refine wp_exit ?_
     refine hK78 _ _ ?_
     refine wp_seq_k (fun K103 hK103 => ?_)
     refine wp_region_lit ?_
     refine seq_do hA rfl rfl rfl (does_move rfl) ?_
     intro a hA
     refine seq_do hA rfl rfl rfl (does_move rfl) ?_
     intro a hA
     refine seq_call hA rfl rfl rfl (enters_func rfl rfl (fun w => by kernel_rfl)) (place_any (hR.below hM.bel) hl) ?_
     rintro _ w105 ⟨rfl, hb104⟩
     replace hM := hM.call hb104
     refine ⟨_, rfl, ?_⟩
     intro a hA
     refine seq_do hA rfl rfl rfl (does_assign rfl) ?_
     intro a hA
     refine seq_end ?_
     refine hK103 _ _ ?_
     refine wp_seq_k (fun K106 hK106 => ?_)
     refine wp_region_lit ?_
     refine seq_do hA rfl rfl rfl (does_move rfl) ?_
     intro a hA
     refine seq_do hA rfl rfl rfl (does_move rfl) ?_
     intro a hA
     refine seq_do hA rfl rfl rfl (m_loadS hM EnG_isS_25 rfl 2 rfl (cs := [.slice so22 l.length ca23, .slice si24 q26.length ci25]) rfl rfl) ?_
     intro a hA
     refine seq_do hA rfl rfl rfl (does_move rfl) ?_
     intro a hA
     refine seq_do hA rfl rfl rfl (does_move rfl) ?_
     intro a hA
     refine seq_do hA rfl rfl rfl (does_move rfl) ?_
     intro a hA
     refine seq_call hA rfl rfl rfl (enters_func rfl rfl (fun w => by kernel_rfl)) (is_any (rc_own (hM.has 3 rfl)) (rc_own (hM.has 4 rfl)) (hR.below hM.bel) (rc_own (hM.has 0 rfl)) (by rw [hxs]; exact Nat.le_trans fil_len (by omega)) (snd_map hsd hq27) (by rw [hq27, mem_map, hxs, fil_full (by omega)])) ?_
     rintro _ w108 ⟨rfl, hb107⟩
     replace hM := hM.call hb107
     refine ⟨_, rfl, ?_⟩
     intro a hA
     refine seq_do (v := .bool true) hA rfl rfl rfl (does_pick rfl rfl rfl rfl) ?_
     intro a hA
     refine seq_do hA rfl rfl rfl (does_move rfl) ?_
     intro a hA
     refine seq_skip hA rfl rfl rfl ?_
     intro a hA
     refine seq_skip hA rfl rfl rfl ?_
     intro a hA
     refine seq_skip hA rfl rfl rfl ?_
     intro a hA
     refine seq_skipU hA rfl rfl rfl ?_
     intro a hA
     refine seq_skipU hA rfl rfl rfl ?_
     intro a hA
     refine seq_skip hA rfl rfl rfl ?_
     intro a hA
     refine seq_do (v := .bool true) hA rfl rfl rfl (does_pick rfl rfl rfl rfl) ?_
     intro a hA
     refine seq_do hA rfl rfl rfl (does_move rfl) ?_
     intro a hA
     refine seq_do hA rfl rfl rfl (does_move rfl) ?_
     intro a hA
     refine seq_do (v := .bool true) hA rfl rfl rfl (does_bin rfl rfl (fun w => by kernel_rfl)) ?_
     intro a hA
     refine seq_do (v := .bool true) hA rfl rfl rfl (does_pick rfl rfl rfl rfl) ?_
     intro a hA
     refine seq_do hA rfl rfl rfl (does_move rfl) ?_
     intro a hA
     refine seq_do hA rfl rfl rfl (does_move rfl) ?_
     intro a hA
     refine seq_do hA rfl rfl rfl (does_move rfl) ?_
     intro a hA
     refine seq_do hA rfl rfl rfl (does_move rfl) ?_
     intro a hA
     refine seq_call hA rfl rfl rfl (enters_func rfl rfl (fun w => by kernel_rfl)) (lmembers_any (hR.below hM.bel) (hB.below hM.bel) (by omega)) ?_
     rintro _ w112 ⟨so109, ca110, rfl, hM111⟩
     replace hM : Mg w w112 (.row 9 1 (.slice so109 ((memS l bs).length) ca110) ((memS l bs).length) (strC (memS l bs)) :: .row 9 1 (.slice so_ xs.length ca_) xs.length (strC xs) :: .row 9 1 (.slice so34 ((memS l bs).length) ca35) ((memS l bs).length) (strC (memS l bs)) :: .obj g30 (.cells #[.slice so22 l.length ca23, .slice si24 q26.length ci25] 25) :: .row 9 1 (.slice so22 l.length ca23) l.length (strC l) :: .row 4 1 (.slice si24 q26.length ci25) q26.length (boolC q26) :: .obj g18 (.cells #[.slice so10 l.length ca11, .slice si12 q14.length ci13] 25) :: .row 9 1 (.slice so10 l.length ca11) l.length (strC l) :: .row 4 1 (.slice si12 q14.length ci13) q14.length (boolC q14) :: .obj g3 (.cells #[.slice so l.length ca, .slice si bs.length ci] 25) :: []) := (hM.both hM111 (noBld_cons (by simp) (noBld_cons (by simp) (noBld_cons (by simp) (noBld_cons (by simp) (noBld_cons (by simp) (noBld_cons (by simp) (noBld_cons (by simp) (noBld_cons (by simp) (noBld_cons (by simp) (noBld_quiet quietL_nil)))))))))) (noBld_cons (by simp) (noBld_quiet quietL_nil)))
     refine ⟨_, rfl, ?_⟩
     intro a hA
     refine seq_call hA rfl rfl rfl (enters_func rfl rfl (fun w => by kernel_rfl)) (sameT_as (rc_own (hM.has 2 rfl)) (by have := memS_len l bs; omega) (rc_own (hM.has 0 rfl)) (by have := memS_len l bs; omega) (decide_eq_true rfl)) ?_
     rintro _ w114 ⟨rfl, hb113⟩
     replace hM := hM.call hb113
     refine ⟨_, rfl, ?_⟩
     intro a hA
     refine seq_do (v := .bool true) hA rfl rfl rfl (does_pick rfl rfl rfl rfl) ?_
     intro a hA
     refine seq_do hA rfl rfl rfl (does_move rfl) ?_
     intro a hA
     refine seq_do hA rfl rfl rfl (does_move rfl) ?_
     intro a hA
     refine seq_do (v := .bool false) hA rfl rfl rfl (does_bin rfl rfl (fun w => (bin_geq w).trans (by rw [show (decide (0 ≤ idxOfS l s)) = false from (decide_eq_false (by omega))]))) ?_
     intro a hA
     refine seq_do hA rfl rfl rfl (does_move rfl) ?_
     intro a hA
     refine seq_skip hA rfl rfl rfl ?_
     intro a hA
     refine seq_skip hA rfl rfl rfl ?_
     intro a hA
     refine seq_do (v := .bool false) hA rfl rfl rfl (does_pick rfl rfl rfl rfl) ?_
     intro a hA
     refine seq_do hA rfl rfl rfl (does_move rfl) ?_
     intro a hA
     refine seq_skip hA rfl rfl rfl ?_
     intro a hA
     refine seq_skip hA rfl rfl rfl ?_
     intro a hA
     refine seq_skip hA rfl rfl rfl ?_
     intro a hA
     refine seq_do (v := .bool false) hA rfl rfl rfl (does_pick rfl rfl rfl rfl) ?_
     intro a hA
     refine seq_do hA rfl rfl rfl (does_move rfl) ?_
     intro a hA
     refine seq_do hA rfl rfl rfl (does_move rfl) ?_
     intro a hA
     refine seq_do (v := .bool true) hA rfl rfl rfl (does_bin rfl rfl (fun w => (bin_lss w).trans (by rw [show (decide (idxOfS l s < 0)) = true from (decide_eq_true hx)]))) ?_
     intro a hA
     refine seq_do hA rfl rfl rfl (does_move rfl) ?_
     intro a hA
     refine seq_do hA rfl rfl rfl (does_move rfl) ?_
     intro a hA
     refine seq_do (v := .bool true) hA rfl rfl rfl (does_bin rfl rfl (fun w => by kernel_rfl)) ?_
     intro a hA
     refine seq_do (v := .bool true) hA rfl rfl rfl (does_pick rfl rfl rfl rfl) ?_
     intro a hA
     refine seq_do hA rfl rfl rfl (does_move rfl) ?_
     intro a hA
     refine seq_do hA rfl rfl rfl (does_move rfl) ?_
     intro a hA
     refine seq_do (v := .bool true) hA rfl rfl rfl (does_bin rfl rfl (fun w => by kernel_rfl)) ?_
     intro a hA
     refine seq_do (v := .bool true) hA rfl rfl rfl (does_pick rfl rfl rfl rfl) ?_
     intro a hA
     refine seq_do (v := .bool true) hA rfl rfl rfl (does_pick rfl rfl rfl rfl) ?_
     intro a hA
     refine seq_do (v := .bool true) hA rfl rfl rfl (does_pick rfl rfl rfl rfl) ?_
     intro a hA
     refine seq_do hA rfl rfl rfl (does_assign rfl) ?_
     intro a hA
     refine seq_end ?_
     refine hK106 _ _ ?_
     refine wp_ret ?_
     refine hret _ _ ?_
     refine ends (v := .bool true) hA rfl (.cons (res_tmp rfl) .nil) rfl ?_
     exact ⟨rfl, hM.bel⟩
set_option maxHeartbeats 1000000 in
theorem made_ok_ok {w : World} {so si : Option Addr} {ca ci : Nat} {l : List ByteArray} {bs : List Bool} (hR : Rs w so l) (hB : Rl w si bs) (hl : l.length ≤ 8796093021952) {sy : Option Addr} {cy : Nat} {ys : List ByteArray} (hY : Rs w sy ys) (hly : ys.length ≤ 8796093021952) {s : ByteArray} (hs : ∀ s ∈ l, s.size ≤ 281474976710656) (hsd : sndS l bs = true) (hany : (ys.any fun s => !decide (0 ≤ idxOfS l s)) = false) (hx : 0 ≤ idxOfS l s) : Calls Try.prog 3 #[.slice so l.length ca, .slice si bs.length ci, .slice sy ys.length cy, .string s] w fun e w' => e = .returned (.bool true) ∧ Below w.heap.size w w' := by
 have h64 := (snd_le hsd).1
 have hbl := (snd_le hsd).2.1
 have ht : twS l = false := by simpa [twS] using (snd_le hsd).2.2
 have hM : Mg w w ([]) := Mg.start w
 refine walk_of (l := [(0, .slice so l.length ca), (1, .slice si bs.length ci), (2, .slice sy ys.length cy), (3, .string s)]) Try.func3 rfl Try.ntmps3 rfl rfl ?_
 intro Q hret hnorm hP a hA
 refine wp_seq_k (fun K1 hK1 => ?_)
 refine wp_region_lit ?_
 refine seq_do hA rfl rfl rfl (does_assign rfl) ?_
 intro a hA
 refine seq_end ?_
 refine hK1 _ _ ?_
 refine wp_seq_k (fun K2 hK2 => ?_)
 refine wp_region_lit ?_
 refine seq_do hA rfl rfl rfl (does_move rfl) ?_
 intro a hA
 refine seq_do hA rfl rfl rfl (does_move rfl) ?_
 intro a hA
 refine seq_do (v := .agg #[.slice so l.length ca, .slice si bs.length ci]) hA rfl rfl rfl (does_build rfl (fun w => by kernel_rfl)) ?_
 intro a hA
 refine s_new (vs := [.slice none 0 0, .slice none 0 0]) (t := 25) hA hM rfl rfl rfl (fun g => .pointer (some ⟨g, 0, none⟩)) (does_alloc (z := .agg #[.slice none 0 0, .slice none 0 0]) (by kernel_rfl) rfl) (by decide) ?_
 intro g3 w4 hM a hA
 refine s_store (us := [.slice so l.length ca, .slice si bs.length ci]) (L' := (.obj g3 (.cells #[.slice so l.length ca, .slice si bs.length ci] 25) :: [])) hA hM rfl rfl (m_store rfl rfl rfl (by kernel_rfl) hM 0 rfl rfl rfl) 0 rfl rfl rfl ?_
 intro w5 hM
 refine seq_end ?_
 refine hK2 _ _ ?_
 refine wp_seq_k (fun K6 hK6 => ?_)
 refine wp_region_lit ?_
 refine seq_do hA rfl rfl rfl (does_move rfl) ?_
 intro a hA
 refine seq_do hA rfl rfl rfl (does_move rfl) ?_
 intro a hA
 refine seq_call hA rfl rfl rfl (enters_func rfl rfl (fun w => by kernel_rfl)) (rsound_as (hR.below hM.bel) (hB.below hM.bel) hsd) ?_
 rintro _ w8 ⟨rfl, hb7⟩
 replace hM := hM.call hb7
 refine ⟨_, rfl, ?_⟩
 intro a hA
 refine seq_do hA rfl rfl rfl (does_assign rfl) ?_
 intro a hA
 refine seq_end ?_
 refine hK6 _ _ ?_
 refine wp_seq_k (fun K9 hK9 => ?_)
 refine wp_region_lit ?_
 refine seq_do hA rfl rfl rfl (does_move rfl) ?_
 intro a hA
 refine seq_call hA rfl rfl rfl (enters_func rfl rfl (fun w => by kernel_rfl)) (new_okN (hR.below hM.bel) hs ht h64) ?_
 rintro _ w17 ⟨so10, ca11, si12, ci13, q14, hq15, rfl, hM16⟩
 replace hM : Mg w w17 (.row 9 1 (.slice so10 l.length ca11) l.length (strC l) :: .row 4 1 (.slice si12 q14.length ci13) q14.length (boolC q14) :: .obj g3 (.cells #[.slice so l.length ca, .slice si bs.length ci] 25) :: []) := (hM.both hM16 (noBld_cons (by simp) (noBld_quiet quietL_nil)) (noBld_cons (by simp) (noBld_cons (by simp) (noBld_quiet quietL_nil))))
 refine ⟨_, rfl, ?_⟩
 intro a hA
 refine seq_do hA rfl rfl rfl (does_move rfl) ?_
 intro a hA
 refine seq_do (v := .agg #[.slice so10 l.length ca11, .slice si12 q14.length ci13]) hA rfl rfl rfl (does_extract (vs := [.agg #[.slice so10 l.length ca11, .slice si12 q14.length ci13], .int .i64 0]) rfl rfl) ?_
 intro a hA
 refine seq_do (v := .int .i64 0) hA rfl rfl rfl (does_extract (vs := [.agg #[.slice so10 l.length ca11, .slice si12 q14.length ci13], .int .i64 0]) rfl rfl) ?_
 intro a hA
 refine s_new (vs := [.slice none 0 0, .slice none 0 0]) (t := 25) hA hM rfl rfl rfl (fun g => .pointer (some ⟨g, 0, none⟩)) (does_alloc (z := .agg #[.slice none 0 0, .slice none 0 0]) (by kernel_rfl) rfl) (by decide) ?_
 intro g18 w19 hM a hA
 refine s_store (us := [.slice so10 l.length ca11, .slice si12 q14.length ci13]) (L' := (.obj g18 (.cells #[.slice so10 l.length ca11, .slice si12 q14.length ci13] 25) :: .row 9 1 (.slice so10 l.length ca11) l.length (strC l) :: .row 4 1 (.slice si12 q14.length ci13) q14.length (boolC q14) :: .obj g3 (.cells #[.slice so l.length ca, .slice si bs.length ci] 25) :: [])) hA hM rfl rfl (m_store rfl rfl rfl (by kernel_rfl) hM 0 rfl rfl rfl) 0 rfl rfl rfl ?_
 intro w20 hM
 refine seq_do hA rfl rfl rfl (does_assign rfl) ?_
 intro a hA
 refine seq_end ?_
 refine hK9 _ _ ?_
 refine wp_seq_k (fun K21 hK21 => ?_)
 refine wp_region_lit ?_
 refine seq_do hA rfl rfl rfl (m_loadS hM EnG_isS_25 rfl 3 rfl (cs := [.slice so l.length ca, .slice si bs.length ci]) rfl rfl) ?_
 intro a hA
 refine seq_do hA rfl rfl rfl (does_move rfl) ?_
 intro a hA
 refine seq_call hA rfl rfl rfl (enters_func rfl rfl (fun w => by kernel_rfl)) (of_okN (hR.below hM.bel) (hB.below hM.bel) (hY.below hM.bel) hly hs hsd hany) ?_
 rintro _ w29 ⟨so22, ca23, si24, ci25, q26, hq27, rfl, hM28⟩
 replace hM : Mg w w29 (.row 9 1 (.slice so22 l.length ca23) l.length (strC l) :: .row 4 1 (.slice si24 q26.length ci25) q26.length (boolC q26) :: .obj g18 (.cells #[.slice so10 l.length ca11, .slice si12 q14.length ci13] 25) :: .row 9 1 (.slice so10 l.length ca11) l.length (strC l) :: .row 4 1 (.slice si12 q14.length ci13) q14.length (boolC q14) :: .obj g3 (.cells #[.slice so l.length ca, .slice si bs.length ci] 25) :: []) := (hM.both hM28 (noBld_cons (by simp) (noBld_cons (by simp) (noBld_cons (by simp) (noBld_cons (by simp) (noBld_quiet quietL_nil))))) (noBld_cons (by simp) (noBld_cons (by simp) (noBld_quiet quietL_nil))))
 refine ⟨_, rfl, ?_⟩
 intro a hA
 refine seq_do hA rfl rfl rfl (does_move rfl) ?_
 intro a hA
 refine seq_do (v := .agg #[.slice so22 l.length ca23, .slice si24 q26.length ci25]) hA rfl rfl rfl (does_extract (vs := [.agg #[.slice so22 l.length ca23, .slice si24 q26.length ci25], .int .i64 0]) rfl rfl) ?_
 intro a hA
 refine seq_do (v := .int .i64 0) hA rfl rfl rfl (does_extract (vs := [.agg #[.slice so22 l.length ca23, .slice si24 q26.length ci25], .int .i64 0]) rfl rfl) ?_
 intro a hA
 refine s_new (vs := [.slice none 0 0, .slice none 0 0]) (t := 25) hA hM rfl rfl rfl (fun g => .pointer (some ⟨g, 0, none⟩)) (does_alloc (z := .agg #[.slice none 0 0, .slice none 0 0]) (by kernel_rfl) rfl) (by decide) ?_
 intro g30 w31 hM a hA
 refine s_store (us := [.slice so22 l.length ca23, .slice si24 q26.length ci25]) (L' := (.obj g30 (.cells #[.slice so22 l.length ca23, .slice si24 q26.length ci25] 25) :: .row 9 1 (.slice so22 l.length ca23) l.length (strC l) :: .row 4 1 (.slice si24 q26.length ci25) q26.length (boolC q26) :: .obj g18 (.cells #[.slice so10 l.length ca11, .slice si12 q14.length ci13] 25) :: .row 9 1 (.slice so10 l.length ca11) l.length (strC l) :: .row 4 1 (.slice si12 q14.length ci13) q14.length (boolC q14) :: .obj g3 (.cells #[.slice so l.length ca, .slice si bs.length ci] 25) :: [])) hA hM rfl rfl (m_store rfl rfl rfl (by kernel_rfl) hM 0 rfl rfl rfl) 0 rfl rfl rfl ?_
 intro w32 hM
 refine seq_do hA rfl rfl rfl (does_assign rfl) ?_
 intro a hA
 refine seq_end ?_
 refine hK21 _ _ ?_
 refine wp_seq_k (fun K33 hK33 => ?_)
 refine wp_region_lit ?_
 refine seq_do hA rfl rfl rfl (m_loadS hM EnG_isS_25 rfl 6 rfl (cs := [.slice so l.length ca, .slice si bs.length ci]) rfl rfl) ?_
 intro a hA
 refine seq_call hA rfl rfl rfl (enters_func rfl rfl (fun w => by kernel_rfl)) (list_ok (hR.below hM.bel) (hB.below hM.bel) hs hsd) ?_
 rintro _ w37 ⟨so34, ca35, rfl, hM36⟩
 replace hM : Mg w w37 (.row 9 1 (.slice so34 ((memS l bs).length) ca35) ((memS l bs).length) (strC (memS l bs)) :: .obj g30 (.cells #[.slice so22 l.length ca23, .slice si24 q26.length ci25] 25) :: .row 9 1 (.slice so22 l.length ca23) l.length (strC l) :: .row 4 1 (.slice si24 q26.length ci25) q26.length (boolC q26) :: .obj g18 (.cells #[.slice so10 l.length ca11, .slice si12 q14.length ci13] 25) :: .row 9 1 (.slice so10 l.length ca11) l.length (strC l) :: .row 4 1 (.slice si12 q14.length ci13) q14.length (boolC q14) :: .obj g3 (.cells #[.slice so l.length ca, .slice si bs.length ci] 25) :: []) := (hM.both hM36 (noBld_cons (by simp) (noBld_cons (by simp) (noBld_cons (by simp) (noBld_cons (by simp) (noBld_cons (by simp) (noBld_cons (by simp) (noBld_cons (by simp) (noBld_quiet quietL_nil)))))))) (noBld_cons (by simp) (noBld_quiet quietL_nil)))
 refine ⟨_, rfl, ?_⟩
 intro a hA
 refine seq_do hA rfl rfl rfl (does_move rfl) ?_
 intro a hA
 refine seq_do (v := .slice so34 ((memS l bs).length) ca35) hA rfl rfl rfl (does_extract (vs := [.slice so34 ((memS l bs).length) ca35, .int .i64 0]) rfl rfl) ?_
 intro a hA
 refine seq_do (v := .int .i64 0) hA rfl rfl rfl (does_extract (vs := [.slice so34 ((memS l bs).length) ca35, .int .i64 0]) rfl rfl) ?_
 intro a hA
 refine seq_do hA rfl rfl rfl (does_assign rfl) ?_
 intro a hA
 refine seq_do hA rfl rfl rfl (does_assign rfl) ?_
 intro a hA
 refine seq_end ?_
 refine hK33 _ _ ?_
 refine wp_seq_k (fun K38 hK38 => ?_)
 refine wp_region_lit ?_
 refine seq_do hA rfl rfl rfl (m_loadS hM EnG_isS_25 rfl 7 rfl (cs := [.slice so l.length ca, .slice si bs.length ci]) rfl rfl) ?_
 intro a hA
 refine seq_do hA rfl rfl rfl (does_move rfl) ?_
 intro a hA
 refine seq_call hA rfl rfl rfl (enters_func rfl rfl (fun w => by kernel_rfl)) (index_ok (hR.below hM.bel) (hB.below hM.bel) hsd hx) ?_
 rintro _ w40 ⟨rfl, hb39⟩
 replace hM := hM.call hb39
 refine ⟨_, rfl, ?_⟩
 intro a hA
 refine seq_do hA rfl rfl rfl (does_move rfl) ?_
 intro a hA
 refine seq_do (v := .int .i64 (idxOfS l s)) hA rfl rfl rfl (does_extract (vs := [.int .i64 (idxOfS l s), .int .i64 0]) rfl rfl) ?_
 intro a hA
 refine seq_do (v := .int .i64 0) hA rfl rfl rfl (does_extract (vs := [.int .i64 (idxOfS l s), .int .i64 0]) rfl rfl) ?_
 intro a hA
 refine seq_do hA rfl rfl rfl (does_assign rfl) ?_
 intro a hA
 refine seq_do hA rfl rfl rfl (does_assign rfl) ?_
 intro a hA
 refine seq_end ?_
 refine hK38 _ _ ?_
 refine wp_seq_k (fun K41 hK41 => ?_)
 refine wp_seq_k (fun K42 hK42 => ?_)
 refine wp_region_lit ?_
 refine seq_call hA rfl rfl rfl (enters_func rfl rfl (fun w => by kernel_rfl)) (awake_any) ?_
 rintro _ w44 ⟨rfl, hb43⟩
 replace hM := hM.call hb43
 refine ⟨_, rfl, ?_⟩
 intro a hA
 refine seq_do (v := .bool false) hA rfl rfl rfl (does_un rfl un_not) ?_
 intro a hA
 refine seq_do hA rfl rfl rfl (does_move rfl) ?_
 intro a hA
 refine seq_do hA rfl rfl rfl (m_loadS hM EnG_isS_25 rfl 7 rfl (cs := [.slice so l.length ca, .slice si bs.length ci]) rfl rfl) ?_
 intro a hA
 refine seq_call hA rfl rfl rfl (enters_func rfl rfl (fun w => by kernel_rfl)) (sound_as (hR.below hM.bel) (hB.below hM.bel) hsd) ?_
 rintro _ w46 ⟨rfl, hb45⟩
 replace hM := hM.call hb45
 refine ⟨_, rfl, ?_⟩
 intro a hA
 refine seq_do hA rfl rfl rfl (does_move rfl) ?_
 intro a hA
 refine seq_do (v := .bool false) hA rfl rfl rfl (does_bin rfl rfl (bin_neqB Try.underlying4)) ?_
 intro a hA
 refine seq_do (v := .bool false) hA rfl rfl rfl (does_pick rfl rfl rfl rfl) ?_
 intro a hA
 refine seq_end ?_
 refine hK42 _ _ ?_
 refine wp_cond_false (hA.ev rfl) ?_
 refine wp_skip ?_
 refine hK41 _ _ ?_
 refine wp_seq_k (fun K47 hK47 => ?_)
 refine wp_block ?_
 refine wp_seq_k (fun K48 hK48 => ?_)
 refine wp_region_lit ?_
 refine seq_do hA rfl rfl rfl (does_move rfl) ?_
 intro a hA
 refine seq_call hA rfl rfl rfl (enters_func rfl rfl (fun w => by kernel_rfl)) (rtwice_as (hR.below hM.bel) hl ht) ?_
 rintro _ w50 ⟨rfl, hb49⟩
 replace hM := hM.call hb49
 refine ⟨_, rfl, ?_⟩
 intro a hA
 refine seq_do hA rfl rfl rfl (does_assign rfl) ?_
 intro a hA
 refine seq_end ?_
 refine hK48 _ _ ?_
 refine wp_cond_false (hA.ev rfl) ?_
 refine wp_seq_k (fun K51 hK51 => ?_)
 refine wp_region_lit ?_
 refine seq_do hA rfl rfl rfl (does_move rfl) ?_
 intro a hA
 refine seq_do (v := .int .i64 (((l.length : Nat) : Int))) hA rfl rfl rfl (does_len Try.underlying22 rfl) ?_
 intro a hA
 refine seq_do (v := .bool false) hA rfl rfl rfl (does_bin rfl rfl (fun w => (bin_gtr w).trans (by rw [show (decide (64 < ((l.length : Nat) : Int))) = false from (decide_eq_false (by omega))]))) ?_
 intro a hA
 refine seq_do hA rfl rfl rfl (does_assign rfl) ?_
 intro a hA
 refine seq_end ?_
 refine hK51 _ _ ?_
 refine wp_cond_false (hA.ev rfl) ?_
 refine wp_seq_k (fun K52 hK52 => ?_)
 refine wp_region_lit ?_
 refine seq_do hA rfl rfl rfl (m_loadS hM EnG_isS_25 rfl 4 rfl (cs := [.slice so10 l.length ca11, .slice si12 q14.length ci13]) rfl rfl) ?_
 intro a hA
 refine seq_do hA rfl rfl rfl (does_move rfl) ?_
 intro a hA
 refine seq_do hA rfl rfl rfl (does_move rfl) ?_
 intro a hA
 refine seq_do hA rfl rfl rfl (does_move rfl) ?_
 intro a hA
 refine seq_call hA rfl rfl rfl (enters_func rfl rfl (fun w => by kernel_rfl)) (is_any (rc_own (hM.has 5 rfl)) (rc_own (hM.has 6 rfl)) (hR.below hM.bel) (hR.below hM.bel) (by omega) (snd_map hsd hq15) (by rw [hq15, mem_map]; simp)) ?_
 rintro _ w54 ⟨rfl, hb53⟩
 replace hM := hM.call hb53
 refine ⟨_, rfl, ?_⟩
 intro a hA
 refine seq_do (v := .bool false) hA rfl rfl rfl (does_un rfl un_not) ?_
 intro a hA
 refine seq_do hA rfl rfl rfl (does_assign rfl) ?_
 intro a hA
 refine seq_end ?_
 refine hK52 _ _ ?_
 refine wp_cond_false (hA.ev rfl) ?_
 refine wp_skip ?_
 refine hK47 _ _ ?_
 refine wp_seq_k (fun K55 hK55 => ?_)
 refine wp_seq_k (fun K56 hK56 => ?_)
 refine wp_region_lit ?_
 refine seq_do hA rfl rfl rfl (does_move rfl) ?_
 intro a hA
 refine seq_do (v := .bool false) hA rfl rfl rfl (does_un rfl un_not) ?_
 intro a hA
 refine seq_end ?_
 refine hK56 _ _ ?_
 refine wp_cond_false (hA.ev rfl) ?_
 refine wp_skip ?_
 refine hK55 _ _ ?_
 refine wp_seq_k (fun K57 hK57 => ?_)
 refine wp_region_lit ?_
 refine seq_do hA rfl rfl rfl (does_assign rfl) ?_
 intro a hA
 refine seq_end ?_
 refine hK57 _ _ ?_
 refine wp_seq_k (fun K58 hK58 => ?_)
 refine wp_region_lit ?_
 refine s_litE (e := 9) (sz := 1) (m := 0) (vs := strC []) hA hM rfl rfl rfl (does_buildSlice rfl (by kernel_rfl)) rfl rfl (.inl (by decide)) ?_
 intro g59 w60 hM a hA
 refine seq_do hA rfl rfl rfl (does_assign rfl) ?_
 intro a hA
 refine seq_end ?_
 refine hK58 _ _ ?_
 refine wp_seq_k (fun K61 hK61 => ?_)
 refine wp_seq_k (fun K62 hK62 => ?_)
 refine wp_region_lit ?_
 refine seq_do hA rfl rfl rfl (does_assign rfl) ?_
 intro a hA
 refine seq_end ?_
 refine hK62 _ _ ?_
 refine wp_block ?_
 refine wp_loop_n (fun m_ a w1 => ∃ (i : Nat) (kf : Bool), m_ = 1 + (ys.length - i) ∧ (i ≤ ys.length ∧ kf = (ys.take i).all (fun s => decide (0 ≤ idxOfS l s))) ∧ Sl a 197 [(0, .slice so l.length ca), (1, .slice si bs.length ci), (2, .slice sy ys.length cy), (3, .string s), (8, .bool false), (9, .pointer (some ⟨g3, 0, none⟩)), (10, .bool true), (11, .pointer (some ⟨g18, 0, none⟩)), (12, .int .i64 0), (13, .pointer (some ⟨g30, 0, none⟩)), (14, .int .i64 0), (15, .slice so34 ((memS l bs).length) ca35), (16, .int .i64 0), (17, .int .i64 (idxOfS l s)), (18, .int .i64 0), (19, .bool kf), (20, .slice (some ⟨g59, 0, none⟩) 0 0), (21, .int .i64 (((i : Nat) : Int))), (24, .slice so l.length ca), (25, .slice si bs.length ci), (26, .agg #[.slice so l.length ca, .slice si bs.length ci]), (27, .slice so l.length ca), (28, .slice si bs.length ci), (29, .bool true), (30, .tuple #[.agg #[.slice so10 l.length ca11, .slice si12 q14.length ci13], .int .i64 0]), (31, .slice so l.length ca), (32, .tuple #[.agg #[.slice so10 l.length ca11, .slice si12 q14.length ci13], .int .i64 0]), (33, .agg #[.slice so10 l.length ca11, .slice si12 q14.length ci13]), (34, .int .i64 0), (35, .tuple #[.agg #[.slice so22 l.length ca23, .slice si24 q26.length ci25], .int .i64 0]), (36, .agg #[.slice so l.length ca, .slice si bs.length ci]), (37, .slice sy ys.length cy), (38, .tuple #[.agg #[.slice so22 l.length ca23, .slice si24 q26.length ci25], .int .i64 0]), (39, .agg #[.slice so22 l.length ca23, .slice si24 q26.length ci25]), (40, .int .i64 0), (41, .tuple #[.slice so34 ((memS l bs).length) ca35, .int .i64 0]), (42, .agg #[.slice so l.length ca, .slice si bs.length ci]), (43, .tuple #[.slice so34 ((memS l bs).length) ca35, .int .i64 0]), (44, .slice so34 ((memS l bs).length) ca35), (45, .int .i64 0), (46, .tuple #[.int .i64 (idxOfS l s), .int .i64 0]), (47, .agg #[.slice so l.length ca, .slice si bs.length ci]), (48, .string s), (49, .tuple #[.int .i64 (idxOfS l s), .int .i64 0]), (50, .int .i64 (idxOfS l s)), (51, .int .i64 0), (52, .bool true), (53, .bool false), (54, .bool false), (55, .agg #[.slice so l.length ca, .slice si bs.length ci]), (56, .bool true), (57, .bool true), (58, .bool false), (59, .bool false), (60, .bool false), (61, .slice so l.length ca), (62, .bool false), (65, .bool false), (66, .slice so l.length ca), (67, .int .i64 (((l.length : Nat) : Int))), (68, .bool false), (71, .bool false), (72, .agg #[.slice so10 l.length ca11, .slice si12 q14.length ci13]), (73, .int .i64 0), (74, .slice so l.length ca), (75, .slice so l.length ca), (76, .bool true), (77, .bool false), (78, .bool true), (79, .bool false), (105, .slice (some ⟨g59, 0, none⟩) 0 0)] ∧ Mg w w1 (.row 9 1 (.slice (some ⟨g59, 0, none⟩) 0 0) 0 (strC []) :: .row 9 1 (.slice so34 ((memS l bs).length) ca35) ((memS l bs).length) (strC (memS l bs)) :: .obj g30 (.cells #[.slice so22 l.length ca23, .slice si24 q26.length ci25] 25) :: .row 9 1 (.slice so22 l.length ca23) l.length (strC l) :: .row 4 1 (.slice si24 q26.length ci25) q26.length (boolC q26) :: .obj g18 (.cells #[.slice so10 l.length ca11, .slice si12 q14.length ci13] 25) :: .row 9 1 (.slice so10 l.length ca11) l.length (strC l) :: .row 4 1 (.slice si12 q14.length ci13) q14.length (boolC q14) :: .obj g3 (.cells #[.slice so l.length ca, .slice si bs.length ci] 25) :: [])) _ ⟨0, true, rfl, ⟨Nat.zero_le _, rfl⟩, hA.keep _ ⟨rfl, rfl, rfl, rfl, rfl, rfl, rfl, rfl, rfl, rfl, rfl, rfl, rfl, rfl, rfl, rfl, rfl, rfl, rfl, rfl, rfl, rfl, rfl, rfl, rfl, rfl, rfl, rfl, rfl, rfl, rfl, rfl, rfl, rfl, rfl, rfl, rfl, rfl, rfl, rfl, rfl, rfl, rfl, rfl, rfl, rfl, rfl, rfl, rfl, rfl, rfl, rfl, rfl, rfl, rfl, rfl, rfl, rfl, rfl, rfl, rfl, rfl, rfl, rfl, rfl, rfl, rfl, rfl, rfl, rfl, rfl, trivial⟩, hM⟩ ?_
 clear hM hA
 rintro m_ a w63 ⟨i, kf, rfl, hinv65, hA, hM⟩ K64 hK64
 obtain ⟨hi0, hkf⟩ := hinv65
 refine wp_seq_k (fun K66 hK66 => ?_)
 refine wp_seq_k (fun K67 hK67 => ?_)
 refine wp_region_lit ?_
 refine seq_do hA rfl rfl rfl (does_move rfl) ?_
 intro a hA
 refine seq_do hA rfl rfl rfl (does_move rfl) ?_
 intro a hA
 refine seq_do (v := .int .i64 (((ys.length : Nat) : Int))) hA rfl rfl rfl (does_len Try.underlying22 rfl) ?_
 intro a hA
 refine seq_do (v := .bool (decide (((i : Nat) : Int) < ((ys.length : Nat) : Int)))) hA rfl rfl rfl (does_bin rfl rfl bin_lss) ?_
 intro a hA
 refine seq_end ?_
 refine hK67 _ _ ?_
 refine wp_cond_split (t := decide (((i : Nat) : Int) < ((ys.length : Nat) : Int))) (hA.ev rfl) (fun hc68 => ?_) (fun hc68 => ?_)
 · have hc68' := of_decide_eq_true hc68
   refine wp_skip ?_
   refine hK66 _ _ ?_
   refine wp_seq_k (fun K69 hK69 => ?_)
   refine wp_block ?_
   refine wp_region_lit ?_
   refine seq_do hA rfl rfl rfl (does_move rfl) ?_
   intro a hA
   refine seq_do hA rfl rfl rfl (does_move rfl) ?_
   intro a hA
   rcases kf with _ | _
   · refine seq_skip hA rfl rfl rfl ?_
     intro a hA
     refine seq_skip hA rfl rfl rfl ?_
     intro a hA
     refine seq_skip hA rfl rfl rfl ?_
     intro a hA
     refine seq_skip hA rfl rfl rfl ?_
     intro a hA
     refine seq_skip hA rfl rfl rfl ?_
     intro a hA
     refine seq_skip hA rfl rfl rfl ?_
     intro a hA
     refine seq_skip hA rfl rfl rfl ?_
     intro a hA
     refine seq_do (v := .bool false) hA rfl rfl rfl (does_pick rfl rfl rfl rfl) ?_
     intro a hA
     refine seq_do hA rfl rfl rfl (does_assign rfl) ?_
     intro a hA
     refine seq_end ?_
     refine hK69 _ _ ?_
     refine wp_region_lit ?_
     refine seq_do hA rfl rfl rfl (does_move rfl) ?_
     intro a hA
     refine seq_do (v := .int .i64 (((i + 1 : Nat) : Int))) hA rfl rfl rfl (does_bin rfl rfl (ar_add ((in_i64 (by omega) (by omega)).trans (by omega)))) ?_
     intro a hA
     refine seq_do hA rfl rfl rfl (does_assign rfl) ?_
     intro a hA
     refine seq_end ?_
     refine hK64 _ _ _ (by omega) ⟨i + 1, false, rfl, ⟨by omega, by rw [List.take_add_one, List.all_append, ← hkf]; rfl⟩, hA.keep _ ⟨rfl, rfl, rfl, rfl, rfl, rfl, rfl, rfl, rfl, rfl, rfl, rfl, rfl, rfl, rfl, rfl, rfl, rfl, rfl, rfl, rfl, rfl, rfl, rfl, rfl, rfl, rfl, rfl, rfl, rfl, rfl, rfl, rfl, rfl, rfl, rfl, rfl, rfl, rfl, rfl, rfl, rfl, rfl, rfl, rfl, rfl, rfl, rfl, rfl, rfl, rfl, rfl, rfl, rfl, rfl, rfl, rfl, rfl, rfl, rfl, rfl, rfl, rfl, rfl, rfl, rfl, rfl, rfl, rfl, rfl, rfl, trivial⟩, hM⟩
   · refine seq_do hA rfl rfl rfl (does_move rfl) ?_
     intro a hA
     refine seq_do hA rfl rfl rfl (does_move rfl) ?_
     intro a hA
     refine seq_do hA rfl rfl rfl (does_move rfl) ?_
     intro a hA
     obtain ⟨bx70, ox71, sx72, hs73, hc74, hi75⟩ := hY.at_ (i := i) (by omega)
     refine seq_do (v := .pointer (some ⟨bx70, ox71 + i, none⟩)) hA rfl rfl rfl (does_indexRow (k := i) Try.underlying22 (by kernel_rfl) rfl rfl (by first | rfl | omega) hs73 (by omega)) ?_
     intro a hA
     refine seq_do hA rfl rfl rfl (m_loadX hM hc74 EnG_is1_9 rfl) ?_
     intro a hA
     refine seq_call hA rfl rfl rfl (enters_func rfl rfl (fun w => by kernel_rfl)) (place_any (hR.below hM.bel) hl) ?_
     rintro _ w77 ⟨rfl, hb76⟩
     replace hM := hM.call hb76
     refine ⟨_, rfl, ?_⟩
     intro a hA
     refine seq_do (v := .bool (decide (0 ≤ idxOfS l sx72))) hA rfl rfl rfl (does_bin rfl rfl bin_geq) ?_
     intro a hA
     refine seq_do (v := .bool (decide (0 ≤ idxOfS l sx72))) hA rfl rfl rfl (does_pick rfl rfl rfl rfl) ?_
     intro a hA
     refine seq_do hA rfl rfl rfl (does_assign rfl) ?_
     intro a hA
     refine seq_end ?_
     refine hK69 _ _ ?_
     refine wp_region_lit ?_
     refine seq_do hA rfl rfl rfl (does_move rfl) ?_
     intro a hA
     refine seq_do (v := .int .i64 (((i + 1 : Nat) : Int))) hA rfl rfl rfl (does_bin rfl rfl (ar_add ((in_i64 (by omega) (by omega)).trans (by omega)))) ?_
     intro a hA
     refine seq_do hA rfl rfl rfl (does_assign rfl) ?_
     intro a hA
     refine seq_end ?_
     refine hK64 _ _ _ (by omega) ⟨i + 1, decide (0 ≤ idxOfS l sx72), rfl, ⟨by omega, by rw [List.take_add_one, hi75, List.all_append, ← hkf]; simp⟩, hA.keep _ ⟨rfl, rfl, rfl, rfl, rfl, rfl, rfl, rfl, rfl, rfl, rfl, rfl, rfl, rfl, rfl, rfl, rfl, rfl, rfl, rfl, rfl, rfl, rfl, rfl, rfl, rfl, rfl, rfl, rfl, rfl, rfl, rfl, rfl, rfl, rfl, rfl, rfl, rfl, rfl, rfl, rfl, rfl, rfl, rfl, rfl, rfl, rfl, rfl, rfl, rfl, rfl, rfl, rfl, rfl, rfl, rfl, rfl, rfl, rfl, rfl, rfl, rfl, rfl, rfl, rfl, rfl, rfl, rfl, rfl, rfl, rfl, trivial⟩, hM⟩
 · have hc68' := of_decide_eq_false hc68
   refine wp_exit ?_
   refine hK61 _ _ ?_
   refine wp_seq_k (fun K78 hK78 => ?_)
   refine wp_seq_k (fun K79 hK79 => ?_)
   obtain rfl : kf = true := by rw [hkf, List.take_of_length_le (show ys.length ≤ i by omega), all_any, hany]; rfl
   refine wp_region_lit ?_
   refine seq_do hA rfl rfl rfl (does_assign rfl) ?_
   intro a hA
   refine seq_end ?_
   refine hK79 _ _ ?_
   refine wp_block ?_
   refine wp_loop_n (fun m_ a w1 => ∃ (j : Nat) (xs : List ByteArray) (so_ : Option Addr) (ca_ : Nat), m_ = 1 + (l.length - j) ∧ (j ≤ l.length ∧ xs = (l.take j).filter (fun s => decide (0 ≤ idxOfS ys s))) ∧ Sl a 197 [(0, .slice so l.length ca), (1, .slice si bs.length ci), (2, .slice sy ys.length cy), (3, .string s), (8, .bool false), (9, .pointer (some ⟨g3, 0, none⟩)), (10, .bool true), (11, .pointer (some ⟨g18, 0, none⟩)), (12, .int .i64 0), (13, .pointer (some ⟨g30, 0, none⟩)), (14, .int .i64 0), (15, .slice so34 ((memS l bs).length) ca35), (16, .int .i64 0), (17, .int .i64 (idxOfS l s)), (18, .int .i64 0), (19, .bool true), (20, .slice so_ xs.length ca_), (21, .int .i64 (((i : Nat) : Int))), (22, .int .i64 (((j : Nat) : Int))), (24, .slice so l.length ca), (25, .slice si bs.length ci), (26, .agg #[.slice so l.length ca, .slice si bs.length ci]), (27, .slice so l.length ca), (28, .slice si bs.length ci), (29, .bool true), (30, .tuple #[.agg #[.slice so10 l.length ca11, .slice si12 q14.length ci13], .int .i64 0]), (31, .slice so l.length ca), (32, .tuple #[.agg #[.slice so10 l.length ca11, .slice si12 q14.length ci13], .int .i64 0]), (33, .agg #[.slice so10 l.length ca11, .slice si12 q14.length ci13]), (34, .int .i64 0), (35, .tuple #[.agg #[.slice so22 l.length ca23, .slice si24 q26.length ci25], .int .i64 0]), (36, .agg #[.slice so l.length ca, .slice si bs.length ci]), (37, .slice sy ys.length cy), (38, .tuple #[.agg #[.slice so22 l.length ca23, .slice si24 q26.length ci25], .int .i64 0]), (39, .agg #[.slice so22 l.length ca23, .slice si24 q26.length ci25]), (40, .int .i64 0), (41, .tuple #[.slice so34 ((memS l bs).length) ca35, .int .i64 0]), (42, .agg #[.slice so l.length ca, .slice si bs.length ci]), (43, .tuple #[.slice so34 ((memS l bs).length) ca35, .int .i64 0]), (44, .slice so34 ((memS l bs).length) ca35), (45, .int .i64 0), (46, .tuple #[.int .i64 (idxOfS l s), .int .i64 0]), (47, .agg #[.slice so l.length ca, .slice si bs.length ci]), (48, .string s), (49, .tuple #[.int .i64 (idxOfS l s), .int .i64 0]), (50, .int .i64 (idxOfS l s)), (51, .int .i64 0), (52, .bool true), (53, .bool false), (54, .bool false), (55, .agg #[.slice so l.length ca, .slice si bs.length ci]), (56, .bool true), (57, .bool true), (58, .bool false), (59, .bool false), (60, .bool false), (61, .slice so l.length ca), (62, .bool false), (65, .bool false), (66, .slice so l.length ca), (67, .int .i64 (((l.length : Nat) : Int))), (68, .bool false), (71, .bool false), (72, .agg #[.slice so10 l.length ca11, .slice si12 q14.length ci13]), (73, .int .i64 0), (74, .slice so l.length ca), (75, .slice so l.length ca), (76, .bool true), (77, .bool false), (78, .bool true), (79, .bool false), (105, .slice (some ⟨g59, 0, none⟩) 0 0), (106, .int .i64 (((i : Nat) : Int))), (107, .slice sy ys.length cy), (108, .int .i64 (((ys.length : Nat) : Int))), (109, .bool (decide (((i : Nat) : Int) < ((ys.length : Nat) : Int))))] ∧ Mg w w1 (.row 9 1 (.slice so_ xs.length ca_) xs.length (strC xs) :: .row 9 1 (.slice so34 ((memS l bs).length) ca35) ((memS l bs).length) (strC (memS l bs)) :: .obj g30 (.cells #[.slice so22 l.length ca23, .slice si24 q26.length ci25] 25) :: .row 9 1 (.slice so22 l.length ca23) l.length (strC l) :: .row 4 1 (.slice si24 q26.length ci25) q26.length (boolC q26) :: .obj g18 (.cells #[.slice so10 l.length ca11, .slice si12 q14.length ci13] 25) :: .row 9 1 (.slice so10 l.length ca11) l.length (strC l) :: .row 4 1 (.slice si12 q14.length ci13) q14.length (boolC q14) :: .obj g3 (.cells #[.slice so l.length ca, .slice si bs.length ci] 25) :: [])) _ ⟨0, [], _, 0, rfl, ⟨Nat.zero_le _, rfl⟩, hA.keep _ ⟨rfl, rfl, rfl, rfl, rfl, rfl, rfl, rfl, rfl, rfl, rfl, rfl, rfl, rfl, rfl, rfl, rfl, rfl, rfl, rfl, rfl, rfl, rfl, rfl, rfl, rfl, rfl, rfl, rfl, rfl, rfl, rfl, rfl, rfl, rfl, rfl, rfl, rfl, rfl, rfl, rfl, rfl, rfl, rfl, rfl, rfl, rfl, rfl, rfl, rfl, rfl, rfl, rfl, rfl, rfl, rfl, rfl, rfl, rfl, rfl, rfl, rfl, rfl, rfl, rfl, rfl, rfl, rfl, rfl, rfl, rfl, rfl, rfl, rfl, rfl, rfl, trivial⟩, hM⟩ ?_
   clear hM hA
   rintro m_ a w80 ⟨j, xs, so_, ca_, rfl, hinv82, hA, hM⟩ K81 hK81
   obtain ⟨hj0, hxs⟩ := hinv82
   have hLxs : xs.length ≤ j := by rw [hxs]; exact fil_len
   refine wp_seq_k (fun K83 hK83 => ?_)
   refine wp_seq_k (fun K84 hK84 => ?_)
   refine wp_region_lit ?_
   refine seq_do hA rfl rfl rfl (does_move rfl) ?_
   intro a hA
   refine seq_do hA rfl rfl rfl (does_move rfl) ?_
   intro a hA
   refine seq_do (v := .int .i64 (((l.length : Nat) : Int))) hA rfl rfl rfl (does_len Try.underlying22 rfl) ?_
   intro a hA
   refine seq_do (v := .bool (decide (((j : Nat) : Int) < ((l.length : Nat) : Int)))) hA rfl rfl rfl (does_bin rfl rfl bin_lss) ?_
   intro a hA
   refine seq_end ?_
   refine hK84 _ _ ?_
   refine wp_cond_split (t := decide (((j : Nat) : Int) < ((l.length : Nat) : Int))) (hA.ev rfl) (fun hc85 => ?_) (fun hc85 => ?_)
   · have hc85' := of_decide_eq_true hc85
     refine wp_skip ?_
     refine hK83 _ _ ?_
     refine wp_seq_k (fun K86 hK86 => ?_)
     refine wp_block ?_
     refine wp_seq_k (fun K87 hK87 => ?_)
     refine wp_region_lit ?_
     refine seq_do hA rfl rfl rfl (does_move rfl) ?_
     intro a hA
     refine seq_do hA rfl rfl rfl (does_move rfl) ?_
     intro a hA
     refine seq_do hA rfl rfl rfl (does_move rfl) ?_
     intro a hA
     obtain ⟨bx88, ox89, sx90, hs91, hc92, hi93⟩ := hR.at_ (i := j) (by omega)
     refine seq_do (v := .pointer (some ⟨bx88, ox89 + j, none⟩)) hA rfl rfl rfl (does_indexRow (k := j) Try.underlying22 (by kernel_rfl) rfl rfl (by first | rfl | omega) hs91 (by omega)) ?_
     intro a hA
     refine seq_do hA rfl rfl rfl (m_loadX hM hc92 EnG_is1_9 rfl) ?_
     intro a hA
     refine seq_call hA rfl rfl rfl (enters_func rfl rfl (fun w => by kernel_rfl)) (place_any (hY.below hM.bel) hly) ?_
     rintro _ w95 ⟨rfl, hb94⟩
     replace hM := hM.call hb94
     refine ⟨_, rfl, ?_⟩
     intro a hA
     rcases Bool.eq_false_or_eq_true (decide (0 ≤ idxOfS ys sx90)) with hb96 | hb96
     · have hb96' := of_decide_eq_true hb96
       refine seq_do (v := .bool true) hA rfl rfl rfl (does_bin rfl rfl (fun w => (bin_geq w).trans (by rw [hb96]))) ?_
       intro a hA
       refine seq_end ?_
       refine hK87 _ _ ?_
       refine wp_cond_true (hA.ev rfl) ?_
       refine wp_region_lit ?_
       refine seq_do hA rfl rfl rfl (does_move rfl) ?_
       intro a hA
       refine seq_do hA rfl rfl rfl (does_move rfl) ?_
       intro a hA
       refine seq_do hA rfl rfl rfl (does_move rfl) ?_
       intro a hA
       refine seq_do (v := .pointer (some ⟨bx88, ox89 + j, none⟩)) hA rfl rfl rfl (does_indexRow (k := j) Try.underlying22 (by kernel_rfl) rfl rfl (by first | rfl | omega) hs91 (by omega)) ?_
       intro a hA
       refine seq_do hA rfl rfl rfl (m_loadX hM hc92 EnG_is1_9 rfl) ?_
       intro a hA
       refine s_litE (e := 9) (sz := 1) (m := 1) (vs := strC [sx90]) hA hM rfl rfl rfl (does_buildSlice rfl (by kernel_rfl)) rfl rfl (.inl (by decide)) ?_
       intro g97 w98 hM a hA
       refine s_appendE (e := 9) (sz := 1) (k := 1) (q := xs.length) (m := 1) (xs := strC xs) (news := strC [sx90]) (L' := fun v99 => (.row 9 1 (.slice (some ⟨g97, 0, none⟩) 1 1) 1 (strC [sx90]) :: .row 9 1 (v99) (xs.length + 1) (strC xs ++ strC [sx90]) :: .row 9 1 (.slice so34 ((memS l bs).length) ca35) ((memS l bs).length) (strC (memS l bs)) :: .obj g30 (.cells #[.slice so22 l.length ca23, .slice si24 q26.length ci25] 25) :: .row 9 1 (.slice so22 l.length ca23) l.length (strC l) :: .row 4 1 (.slice si24 q26.length ci25) q26.length (boolC q26) :: .obj g18 (.cells #[.slice so10 l.length ca11, .slice si12 q14.length ci13] 25) :: .row 9 1 (.slice so10 l.length ca11) l.length (strC l) :: .row 4 1 (.slice si12 q14.length ci13) q14.length (boolC q14) :: .obj g3 (.cells #[.slice so l.length ca, .slice si bs.length ci] 25) :: [])) hA rfl rfl rfl (m_appX (z := .string ⟨#[]⟩) (sz := 1) (by_ := 16) Try.underlying22 (by kernel_rfl) rfl rfl rfl hM 1 rfl rfl rfl (strC_n [sx90]) (rc_own (hM.has 0 rfl)) (strC_one [sx90]) (by first | omega | (simp only [List.length_nil]; omega))) (fun _ => rfl) ?_
       intro v99 w100 hM a hA
       replace hM : Mg w w100 (.row 9 1 (.slice (some ⟨g97, 0, none⟩) 1 1) 1 (strC [sx90]) :: .row 9 1 (v99) ((xs ++ [sx90]).length) (strC (xs ++ [sx90])) :: .row 9 1 (.slice so34 ((memS l bs).length) ca35) ((memS l bs).length) (strC (memS l bs)) :: .obj g30 (.cells #[.slice so22 l.length ca23, .slice si24 q26.length ci25] 25) :: .row 9 1 (.slice so22 l.length ca23) l.length (strC l) :: .row 4 1 (.slice si24 q26.length ci25) q26.length (boolC q26) :: .obj g18 (.cells #[.slice so10 l.length ca11, .slice si12 q14.length ci13] 25) :: .row 9 1 (.slice so10 l.length ca11) l.length (strC l) :: .row 4 1 (.slice si12 q14.length ci13) q14.length (boolC q14) :: .obj g3 (.cells #[.slice so l.length ca, .slice si bs.length ci] 25) :: []) := by
         rw [← strC_app, List.length_append]; exact hM
       obtain ⟨so101, ca102, rfl⟩ := owns_any (hM.has 1 rfl)
       refine seq_do hA rfl rfl rfl (does_assign rfl) ?_
       intro a hA
       refine seq_end ?_
       refine hK86 _ _ ?_
       refine wp_region_lit ?_
       refine seq_do hA rfl rfl rfl (does_move rfl) ?_
       intro a hA
       refine seq_do (v := .int .i64 (((j + 1 : Nat) : Int))) hA rfl rfl rfl (does_bin rfl rfl (ar_add ((in_i64 (by omega) (by omega)).trans (by omega)))) ?_
       intro a hA
       refine seq_do hA rfl rfl rfl (does_assign rfl) ?_
       intro a hA
       refine seq_end ?_
       replace hM : Mg w w100 (.row 9 1 (.slice so101 ((xs ++ [sx90]).length) ca102) ((xs ++ [sx90]).length) (strC (xs ++ [sx90])) :: .row 9 1 (.slice so34 ((memS l bs).length) ca35) ((memS l bs).length) (strC (memS l bs)) :: .obj g30 (.cells #[.slice so22 l.length ca23, .slice si24 q26.length ci25] 25) :: .row 9 1 (.slice so22 l.length ca23) l.length (strC l) :: .row 4 1 (.slice si24 q26.length ci25) q26.length (boolC q26) :: .obj g18 (.cells #[.slice so10 l.length ca11, .slice si12 q14.length ci13] 25) :: .row 9 1 (.slice so10 l.length ca11) l.length (strC l) :: .row 4 1 (.slice si12 q14.length ci13) q14.length (boolC q14) :: .obj g3 (.cells #[.slice so l.length ca, .slice si bs.length ci] 25) :: []) := by
         have h9 := hM.sub (.cons _ (.cons_cons _ (.cons_cons _ (.cons_cons _ (.cons_cons _ (.cons_cons _ (.cons_cons _ (.cons_cons _ (.cons_cons _ (.cons_cons _ (.refl _)))))))))))
         exact h9
       refine hK81 _ _ _ (by omega) ⟨j + 1, xs ++ [sx90], so101, ca102, rfl, ⟨by omega, by rw [fil_step hi93, ← hxs]; simp [hb96]⟩, hA.keep _ ⟨rfl, rfl, rfl, rfl, rfl, rfl, rfl, rfl, rfl, rfl, rfl, rfl, rfl, rfl, rfl, rfl, rfl, rfl, rfl, rfl, rfl, rfl, rfl, rfl, rfl, rfl, rfl, rfl, rfl, rfl, rfl, rfl, rfl, rfl, rfl, rfl, rfl, rfl, rfl, rfl, rfl, rfl, rfl, rfl, rfl, rfl, rfl, rfl, rfl, rfl, rfl, rfl, rfl, rfl, rfl, rfl, rfl, rfl, rfl, rfl, rfl, rfl, rfl, rfl, rfl, rfl, rfl, rfl, rfl, rfl, rfl, rfl, rfl, rfl, rfl, rfl, trivial⟩, hM⟩
     · have hb96' := of_decide_eq_false hb96
       refine seq_do (v := .bool false) hA rfl rfl rfl (does_bin rfl rfl (fun w => (bin_geq w).trans (by rw [hb96]))) ?_
       intro a hA
       refine seq_end ?_
       refine hK87 _ _ ?_
       refine wp_cond_false (hA.ev rfl) ?_
       refine wp_skip ?_
       refine hK86 _ _ ?_
       refine wp_region_lit ?_
       refine seq_do hA rfl rfl rfl (does_move rfl) ?_
       intro a hA
       refine seq_do (v := .int .i64 (((j + 1 : Nat) : Int))) hA rfl rfl rfl (does_bin rfl rfl (ar_add ((in_i64 (by omega) (by omega)).trans (by omega)))) ?_
       intro a hA
       refine seq_do hA rfl rfl rfl (does_assign rfl) ?_
       intro a hA
       refine seq_end ?_
       refine hK81 _ _ _ (by omega) ⟨j + 1, xs, so_, ca_, rfl, ⟨by omega, by rw [fil_step hi93, ← hxs]; simp [hb96]⟩, hA.keep _ ⟨rfl, rfl, rfl, rfl, rfl, rfl, rfl, rfl, rfl, rfl, rfl, rfl, rfl, rfl, rfl, rfl, rfl, rfl, rfl, rfl, rfl, rfl, rfl, rfl, rfl, rfl, rfl, rfl, rfl, rfl, rfl, rfl, rfl, rfl, rfl, rfl, rfl, rfl, rfl, rfl, rfl, rfl, rfl, rfl, rfl, rfl, rfl, rfl, rfl, rfl, rfl, rfl, rfl, rfl, rfl, rfl, rfl, rfl, rfl, rfl, rfl, rfl, rfl, rfl, rfl, rfl, rfl, rfl, rfl, rfl, rfl, rfl, rfl, rfl, rfl, rfl, trivial⟩, hM⟩
   · have hc85' := of_decide_eq_false hc85
     refine wp_exit ?_
     refine hK78 _ _ ?_
     refine wp_seq_k (fun K103 hK103 => ?_)
     refine wp_region_lit ?_
     refine seq_do hA rfl rfl rfl (does_move rfl) ?_
     intro a hA
     refine seq_do hA rfl rfl rfl (does_move rfl) ?_
     intro a hA
     refine seq_call hA rfl rfl rfl (enters_func rfl rfl (fun w => by kernel_rfl)) (place_any (hR.below hM.bel) hl) ?_
     rintro _ w105 ⟨rfl, hb104⟩
     replace hM := hM.call hb104
     refine ⟨_, rfl, ?_⟩
     intro a hA
     refine seq_do hA rfl rfl rfl (does_assign rfl) ?_
     intro a hA
     refine seq_end ?_
     refine hK103 _ _ ?_
     refine wp_seq_k (fun K106 hK106 => ?_)
     refine wp_region_lit ?_
     refine seq_do hA rfl rfl rfl (does_move rfl) ?_
     intro a hA
     refine seq_do hA rfl rfl rfl (does_move rfl) ?_
     intro a hA
     refine seq_do hA rfl rfl rfl (m_loadS hM EnG_isS_25 rfl 2 rfl (cs := [.slice so22 l.length ca23, .slice si24 q26.length ci25]) rfl rfl) ?_
     intro a hA
     refine seq_do hA rfl rfl rfl (does_move rfl) ?_
     intro a hA
     refine seq_do hA rfl rfl rfl (does_move rfl) ?_
     intro a hA
     refine seq_do hA rfl rfl rfl (does_move rfl) ?_
     intro a hA
     refine seq_call hA rfl rfl rfl (enters_func rfl rfl (fun w => by kernel_rfl)) (is_any (rc_own (hM.has 3 rfl)) (rc_own (hM.has 4 rfl)) (hR.below hM.bel) (rc_own (hM.has 0 rfl)) (by rw [hxs]; exact Nat.le_trans fil_len (by omega)) (snd_map hsd hq27) (by rw [hq27, mem_map, hxs, fil_full (by omega)])) ?_
     rintro _ w108 ⟨rfl, hb107⟩
     replace hM := hM.call hb107
     refine ⟨_, rfl, ?_⟩
     intro a hA
     refine seq_do (v := .bool true) hA rfl rfl rfl (does_pick rfl rfl rfl rfl) ?_
     intro a hA
     refine seq_do hA rfl rfl rfl (does_move rfl) ?_
     intro a hA
     refine seq_skip hA rfl rfl rfl ?_
     intro a hA
     refine seq_skip hA rfl rfl rfl ?_
     intro a hA
     refine seq_skip hA rfl rfl rfl ?_
     intro a hA
     refine seq_skipU hA rfl rfl rfl ?_
     intro a hA
     refine seq_skipU hA rfl rfl rfl ?_
     intro a hA
     refine seq_skip hA rfl rfl rfl ?_
     intro a hA
     refine seq_do (v := .bool true) hA rfl rfl rfl (does_pick rfl rfl rfl rfl) ?_
     intro a hA
     refine seq_do hA rfl rfl rfl (does_move rfl) ?_
     intro a hA
     refine seq_do hA rfl rfl rfl (does_move rfl) ?_
     intro a hA
     refine seq_do (v := .bool true) hA rfl rfl rfl (does_bin rfl rfl (fun w => by kernel_rfl)) ?_
     intro a hA
     refine seq_do (v := .bool true) hA rfl rfl rfl (does_pick rfl rfl rfl rfl) ?_
     intro a hA
     refine seq_do hA rfl rfl rfl (does_move rfl) ?_
     intro a hA
     refine seq_do hA rfl rfl rfl (does_move rfl) ?_
     intro a hA
     refine seq_do hA rfl rfl rfl (does_move rfl) ?_
     intro a hA
     refine seq_do hA rfl rfl rfl (does_move rfl) ?_
     intro a hA
     refine seq_call hA rfl rfl rfl (enters_func rfl rfl (fun w => by kernel_rfl)) (lmembers_any (hR.below hM.bel) (hB.below hM.bel) (by omega)) ?_
     rintro _ w112 ⟨so109, ca110, rfl, hM111⟩
     replace hM : Mg w w112 (.row 9 1 (.slice so109 ((memS l bs).length) ca110) ((memS l bs).length) (strC (memS l bs)) :: .row 9 1 (.slice so_ xs.length ca_) xs.length (strC xs) :: .row 9 1 (.slice so34 ((memS l bs).length) ca35) ((memS l bs).length) (strC (memS l bs)) :: .obj g30 (.cells #[.slice so22 l.length ca23, .slice si24 q26.length ci25] 25) :: .row 9 1 (.slice so22 l.length ca23) l.length (strC l) :: .row 4 1 (.slice si24 q26.length ci25) q26.length (boolC q26) :: .obj g18 (.cells #[.slice so10 l.length ca11, .slice si12 q14.length ci13] 25) :: .row 9 1 (.slice so10 l.length ca11) l.length (strC l) :: .row 4 1 (.slice si12 q14.length ci13) q14.length (boolC q14) :: .obj g3 (.cells #[.slice so l.length ca, .slice si bs.length ci] 25) :: []) := (hM.both hM111 (noBld_cons (by simp) (noBld_cons (by simp) (noBld_cons (by simp) (noBld_cons (by simp) (noBld_cons (by simp) (noBld_cons (by simp) (noBld_cons (by simp) (noBld_cons (by simp) (noBld_cons (by simp) (noBld_quiet quietL_nil)))))))))) (noBld_cons (by simp) (noBld_quiet quietL_nil)))
     refine ⟨_, rfl, ?_⟩
     intro a hA
     refine seq_call hA rfl rfl rfl (enters_func rfl rfl (fun w => by kernel_rfl)) (sameT_as (rc_own (hM.has 2 rfl)) (by have := memS_len l bs; omega) (rc_own (hM.has 0 rfl)) (by have := memS_len l bs; omega) (decide_eq_true rfl)) ?_
     rintro _ w114 ⟨rfl, hb113⟩
     replace hM := hM.call hb113
     refine ⟨_, rfl, ?_⟩
     intro a hA
     refine seq_do (v := .bool true) hA rfl rfl rfl (does_pick rfl rfl rfl rfl) ?_
     intro a hA
     refine seq_do hA rfl rfl rfl (does_move rfl) ?_
     intro a hA
     refine seq_do hA rfl rfl rfl (does_move rfl) ?_
     intro a hA
     refine seq_do (v := .bool true) hA rfl rfl rfl (does_bin rfl rfl (fun w => (bin_geq w).trans (by rw [show (decide (0 ≤ idxOfS l s)) = true from (decide_eq_true hx)]))) ?_
     intro a hA
     refine seq_do hA rfl rfl rfl (does_move rfl) ?_
     intro a hA
     refine seq_do hA rfl rfl rfl (does_move rfl) ?_
     intro a hA
     refine seq_do (v := .bool true) hA rfl rfl rfl (does_bin rfl rfl (fun w => by kernel_rfl)) ?_
     intro a hA
     refine seq_do (v := .bool true) hA rfl rfl rfl (does_pick rfl rfl rfl rfl) ?_
     intro a hA
     refine seq_do hA rfl rfl rfl (does_move rfl) ?_
     intro a hA
     refine seq_do hA rfl rfl rfl (does_move rfl) ?_
     intro a hA
     refine seq_do hA rfl rfl rfl (does_move rfl) ?_
     intro a hA
     refine seq_do (v := .bool true) hA rfl rfl rfl (does_bin rfl rfl (fun w => (bin_eql w).trans (by rw [show ((idxOfS l s == idxOfS l s)) = true from (beq_self_eq_true _)]))) ?_
     intro a hA
     refine seq_do (v := .bool true) hA rfl rfl rfl (does_pick rfl rfl rfl rfl) ?_
     intro a hA
     refine seq_do hA rfl rfl rfl (does_move rfl) ?_
     intro a hA
     refine seq_skip hA rfl rfl rfl ?_
     intro a hA
     refine seq_skip hA rfl rfl rfl ?_
     intro a hA
     refine seq_skip hA rfl rfl rfl ?_
     intro a hA
     refine seq_skipU hA rfl rfl rfl ?_
     intro a hA
     refine seq_skipU hA rfl rfl rfl ?_
     intro a hA
     refine seq_skip hA rfl rfl rfl ?_
     intro a hA
     refine seq_skip hA rfl rfl rfl ?_
     intro a hA
     refine seq_skipU hA rfl rfl rfl ?_
     intro a hA
     refine seq_skipU hA rfl rfl rfl ?_
     intro a hA
     refine seq_skip hA rfl rfl rfl ?_
     intro a hA
     refine seq_do (v := .bool true) hA rfl rfl rfl (does_pick rfl rfl rfl rfl) ?_
     intro a hA
     refine seq_do (v := .bool true) hA rfl rfl rfl (does_pick rfl rfl rfl rfl) ?_
     intro a hA
     refine seq_do hA rfl rfl rfl (does_assign rfl) ?_
     intro a hA
     refine seq_end ?_
     refine hK106 _ _ ?_
     refine wp_ret ?_
     refine hret _ _ ?_
     refine ends (v := .bool true) hA rfl (.cons (res_tmp rfl) .nil) rfl ?_
     exact ⟨rfl, hM.bel⟩
theorem enumMade_any {w : World} {so si : Option Addr} {ca ci : Nat} {l : List ByteArray} {bs : List Bool} (hR : Rs w so l) (hB : Rl w si bs) (hl : l.length ≤ 8796093021952) {sy : Option Addr} {cy : Nat} {ys : List ByteArray} (hY : Rs w sy ys) (hly : ys.length ≤ 8796093021952) {s : ByteArray} (hs : ∀ s ∈ l, s.size ≤ 281474976710656) : Calls Try.prog 3 #[.slice so l.length ca, .slice si bs.length ci, .slice sy ys.length cy, .string s] w fun e w' => e = .returned (.bool true) ∧ Below w.heap.size w w' := by
  rcases Bool.eq_false_or_eq_true (sndS l bs) with h1 | h1
  · rcases Bool.eq_false_or_eq_true (ys.any fun s => !decide (0 ≤ idxOfS l s)) with h2 | h2
    · by_cases h3 : 0 ≤ idxOfS l s
      · exact made_no_ok hR hB hl hY hly hs h1 h2 h3
      · exact made_no_no hR hB hl hY hly hs h1 h2 (by omega)
    · by_cases h3 : 0 ≤ idxOfS l s
      · exact made_ok_ok hR hB hl hY hly hs h1 h2 h3
      · exact made_ok_no hR hB hl hY hly hs h1 h2 (by omega)
  · rcases Bool.eq_false_or_eq_true (twS l) with h2 | h2
    · exact made_tw hR hB hl hY hly hs h1 h2
    · by_cases h3 : l.length ≤ 64
      · exact made_fm hR hB hl hY hly hs h1 h2 h3
      · exact made_lg hR hB hl hY hly hs h1 h2 (by omega)
end Go.Proofs.Ytbdhfooeanbnlaa
