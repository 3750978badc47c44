/- Walks of a new heap. -/
import Derived.Test.YtcigofjajphmjaaHa
import Derived.Test.YtcigofjajphmjaaProg
namespace Go.Proofs.Ytcigofjajphmjaa
open Go.RowKit
set_option linter.unusedVariables false
set_option linter.unusedSimpArgs false
set_option maxRecDepth 100000
theorem HbA_isS_70 : IsS Try.prog 70 2 := ⟨⟨_, Try.underlying70⟩, by kernel_rfl⟩
theorem allowed_any {w : World} {n : Int} : Calls Try.prog 26 #[.int .i64 n] w fun e w' => e = .returned (.bool (decide (0 ≤ n) && decide (n ≤ 65536))) ∧ Below w.heap.size w w' := by
 have hM : Mg w w ([]) := Mg.start w
 refine walk_of (l := [(0, .int .i64 n)]) Try.func26 rfl Try.ntmps26 rfl rfl ?_
 intro Q hret hnorm hP a hA
 refine wp_seq_k (fun K1 hK1 => ?_)
 refine wp_region_lit ?_
 refine seq_do hA rfl rfl rfl (does_assign rfl) ?_
 intro a hA
 refine seq_end ?_
 refine hK1 _ _ ?_
 refine wp_seq_k (fun K2 hK2 => ?_)
 refine wp_region_lit ?_
 refine seq_do hA rfl rfl rfl (does_move rfl) ?_
 intro a hA
 rcases Bool.eq_false_or_eq_true (decide (0 ≤ n)) with hb3 | hb3
 · have hb3' := of_decide_eq_true hb3
   refine seq_do (v := .bool true) hA rfl rfl rfl (does_bin rfl rfl (fun w => (bin_leq w).trans (by rw [hb3]))) ?_
   intro a hA
   refine seq_do hA rfl rfl rfl (does_move rfl) ?_
   intro a hA
   refine seq_do hA rfl rfl rfl (does_move rfl) ?_
   intro a hA
   rcases Bool.eq_false_or_eq_true (decide (n ≤ 65536)) with hb4 | hb4
   · have hb4' := of_decide_eq_true hb4
     refine seq_do (v := .bool true) hA rfl rfl rfl (does_bin rfl rfl (fun w => (bin_leq w).trans (by rw [hb4]))) ?_
     intro a hA
     refine seq_do (v := .bool true) hA rfl rfl rfl (does_pick rfl rfl rfl rfl) ?_
     intro a hA
     refine seq_do hA rfl rfl rfl (does_assign rfl) ?_
     intro a hA
     refine seq_end ?_
     refine hK2 _ _ ?_
     refine wp_ret ?_
     refine hret _ _ ?_
     refine ends (v := .bool true) hA rfl (.cons (res_tmp rfl) .nil) rfl ?_
     exact ⟨by rw [hb3, hb4]; rfl, hM.bel⟩
   · have hb4' := of_decide_eq_false hb4
     refine seq_do (v := .bool false) hA rfl rfl rfl (does_bin rfl rfl (fun w => (bin_leq w).trans (by rw [hb4]))) ?_
     intro a hA
     refine seq_do (v := .bool false) hA rfl rfl rfl (does_pick rfl rfl rfl rfl) ?_
     intro a hA
     refine seq_do hA rfl rfl rfl (does_assign rfl) ?_
     intro a hA
     refine seq_end ?_
     refine hK2 _ _ ?_
     refine wp_ret ?_
     refine hret _ _ ?_
     refine ends (v := .bool false) hA rfl (.cons (res_tmp rfl) .nil) rfl ?_
     exact ⟨by rw [hb3, hb4]; rfl, hM.bel⟩
 · have hb3' := of_decide_eq_false hb3
   refine seq_do (v := .bool false) hA rfl rfl rfl (does_bin rfl rfl (fun w => (bin_leq w).trans (by rw [hb3]))) ?_
   intro a hA
   refine seq_do hA rfl rfl rfl (does_move rfl) ?_
   intro a hA
   refine seq_skip hA rfl rfl rfl ?_
   intro a hA
   refine seq_skip hA rfl rfl rfl ?_
   intro a hA
   refine seq_do (v := .bool false) hA rfl rfl rfl (does_pick rfl rfl rfl rfl) ?_
   intro a hA
   refine seq_do hA rfl rfl rfl (does_assign rfl) ?_
   intro a hA
   refine seq_end ?_
   refine hK2 _ _ ?_
   refine wp_ret ?_
   refine hret _ _ ?_
   refine ends (v := .bool false) hA rfl (.cons (res_tmp rfl) .nil) rfl ?_
   exact ⟨by rw [hb3]; rfl, hM.bel⟩
theorem empty_any {w : World} {n : Nat} : Calls Try.prog 27 #[.int .i64 ((n : Nat) : Int)] w fun e w' => ∃ g, e = .returned (.agg #[.int .i64 ((n : Nat) : Int), .slice (some ⟨g, 0, none⟩) 1 1]) ∧ Mg w w' [.row 96 2 (.slice (some ⟨g, 0, none⟩) 1 1) 1 (gapC [(0, n)])] := by
 have hM : Mg w w ([]) := Mg.start w
 refine walk_of (l := [(0, .int .i64 (((n : Nat) : Int)))]) Try.func27 rfl Try.ntmps27 rfl rfl ?_
 intro Q hret hnorm hP a hA
 refine wp_seq_k (fun K1 hK1 => ?_)
 refine wp_region_lit ?_
 refine s_new (vs := [.int .i64 0, .slice none 0 0]) (t := 70) hA hM rfl rfl rfl (fun g => .pointer (some ⟨g, 0, none⟩)) (does_alloc (z := .agg #[.int .i64 0, .slice none 0 0]) (by kernel_rfl) rfl) (by decide) ?_
 intro g2 w3 hM a hA
 refine seq_end ?_
 refine hK1 _ _ ?_
 refine wp_seq_k (fun K4 hK4 => ?_)
 refine wp_region_lit ?_
 refine seq_do hA rfl rfl rfl (does_move rfl) ?_
 intro a hA
 refine seq_do hA rfl rfl rfl (does_move rfl) ?_
 intro a hA
 refine seq_do (v := .agg #[.int .i64 0, .int .i64 (((n : Nat) : Int))]) hA rfl rfl rfl (does_build rfl (fun w => by kernel_rfl)) ?_
 intro a hA
 refine s_litE (e := 96) (sz := 2) (m := 1) (vs := gapC [(0, n)]) hA hM rfl rfl rfl (does_buildSlice rfl (by kernel_rfl)) rfl rfl (.inl (by decide)) ?_
 intro g5 w6 hM a hA
 refine seq_do (v := .agg #[.int .i64 (((n : Nat) : Int)), .slice (some ⟨g5, 0, none⟩) 1 1]) hA rfl rfl rfl (does_build rfl (fun w => by kernel_rfl)) ?_
 intro a hA
 refine s_store (us := [.int .i64 (((n : Nat) : Int)), .slice (some ⟨g5, 0, none⟩) 1 1]) (L' := (.row 96 2 (.slice (some ⟨g5, 0, none⟩) 1 1) 1 (gapC [(0, n)]) :: .obj g2 (.cells #[.int .i64 (((n : Nat) : Int)), .slice (some ⟨g5, 0, none⟩) 1 1] 70) :: [])) hA hM rfl rfl (m_store rfl rfl rfl (by kernel_rfl) hM 1 rfl rfl rfl) 1 rfl rfl rfl ?_
 intro w7 hM
 refine seq_end ?_
 refine hK4 _ _ ?_
 refine wp_ret ?_
 refine hret _ _ ?_
 refine ends (v := .agg #[.int .i64 (((n : Nat) : Int)), .slice (some ⟨g5, 0, none⟩) 1 1]) hA rfl (.cons (res_cellS hM HbA_isS_70 rfl 1 rfl (cs := [.int .i64 (((n : Nat) : Int)), .slice (some ⟨g5, 0, none⟩) 1 1]) rfl rfl) .nil) rfl ?_
 replace hM : Mg w w7 (.row 96 2 (.slice (some ⟨g5, 0, none⟩) 1 1) 1 (gapC [(0, n)]) :: []) := by
   have h9 := hM.sub (.cons_cons _ (.cons _ (.refl _)))
   exact h9
 exact ⟨_, rfl, hM⟩
theorem new_any {w : World} {s l : Nat} (hs : s ≤ 65536) (hl : l ≤ 65536) : Calls Try.prog 8 #[.int .i64 ((s : Nat) : Int), .int .i64 ((l : Nat) : Int)] w fun e w' => ∃ h m gs gl, e = .returned (.tuple #[.pointer (some ⟨h, 0, none⟩), .int .i64 0]) ∧ Mg w w' (.obj h (.cells #[.map (some m), .int .i64 0, .int .i64 (((s : Nat) : Int)), .slice (some ⟨gs, 0, none⟩) 1 1, .int .i64 (((l : Nat) : Int)), .slice (some ⟨gl, 0, none⟩) 1 1] 73) :: .obj m (mapO ([]) 0) :: .row 96 2 (.slice (some ⟨gs, 0, none⟩) 1 1) 1 (gapC [(0, s)]) :: .row 96 2 (.slice (some ⟨gl, 0, none⟩) 1 1) 1 (gapC [(0, l)]) :: []) := by
 have hok1 : (decide (0 ≤ ((s : Nat) : Int)) && decide (((s : Nat) : Int) ≤ 65536)) = true := by simp; omega
 have hok2 : (decide (0 ≤ ((l : Nat) : Int)) && decide (((l : Nat) : Int) ≤ 65536)) = true := by simp; omega
 have hM : Mg w w ([]) := Mg.start w
 refine walk_of (l := [(0, .int .i64 (((s : Nat) : Int))), (1, .int .i64 (((l : Nat) : Int)))]) Try.func8 rfl Try.ntmps8 rfl rfl ?_
 intro Q hret hnorm hP a hA
 refine wp_seq_k (fun K1 hK1 => ?_)
 refine wp_region_lit ?_
 refine seq_do hA rfl rfl rfl (does_assign rfl) ?_
 intro a hA
 refine seq_do hA rfl rfl rfl (does_assign rfl) ?_
 intro a hA
 refine seq_end ?_
 refine hK1 _ _ ?_
 refine wp_seq_k (fun K2 hK2 => ?_)
 refine wp_seq_k (fun K3 hK3 => ?_)
 refine wp_region_lit ?_
 refine seq_do hA rfl rfl rfl (does_move rfl) ?_
 intro a hA
 refine seq_call hA rfl rfl rfl (enters_func rfl rfl (fun w => by kernel_rfl)) ((hok1 ▸ allowed_any)) ?_
 rintro _ w4 ⟨rfl, hbs⟩
 replace hM := hM.call hbs
 refine ⟨_, rfl, ?_⟩
 intro a hA
 refine seq_do (v := .bool false) hA rfl rfl rfl (does_un rfl un_not) ?_
 intro a hA
 refine seq_do hA rfl rfl rfl (does_move rfl) ?_
 intro a hA
 refine seq_do hA rfl rfl rfl (does_move rfl) ?_
 intro a hA
 refine seq_call hA rfl rfl rfl (enters_func rfl rfl (fun w => by kernel_rfl)) ((hok2 ▸ allowed_any)) ?_
 rintro _ w5 ⟨rfl, hbl⟩
 replace hM := hM.call hbl
 refine ⟨_, rfl, ?_⟩
 intro a hA
 refine seq_do (v := .bool false) hA rfl rfl rfl (does_un rfl un_not) ?_
 intro a hA
 refine seq_do (v := .bool false) hA rfl rfl rfl (does_pick rfl rfl rfl rfl) ?_
 intro a hA
 refine seq_end ?_
 refine hK3 _ _ ?_
 refine wp_cond_false (hA.ev rfl) ?_
 refine wp_skip ?_
 refine hK2 _ _ ?_
 refine wp_seq_k (fun K6 hK6 => ?_)
 refine wp_region_lit ?_
 refine s_makeMap hA hM rfl rfl rfl rfl ?_
 intro g7 w8 hM a hA
 refine seq_do hA rfl rfl rfl (does_move rfl) ?_
 intro a hA
 refine seq_call hA rfl rfl rfl (enters_func rfl rfl (fun w => by kernel_rfl)) (empty_any) ?_
 rintro _ w11 ⟨g9, rfl, hM10⟩
 replace hM : Mg w w11 (.row 96 2 (.slice (some ⟨g9, 0, none⟩) 1 1) 1 (gapC [(0, s)]) :: .obj g7 (mapO ([]) 0) :: []) := (hM.both hM10 (noBld_cons (by simp) (noBld_quiet quietL_nil)) (noBld_cons (by simp) (noBld_quiet quietL_nil)))
 refine ⟨_, rfl, ?_⟩
 intro a hA
 refine seq_do hA rfl rfl rfl (does_move rfl) ?_
 intro a hA
 refine seq_call hA rfl rfl rfl (enters_func rfl rfl (fun w => by kernel_rfl)) (empty_any) ?_
 rintro _ w14 ⟨g12, rfl, hM13⟩
 replace hM : Mg w w14 (.row 96 2 (.slice (some ⟨g12, 0, none⟩) 1 1) 1 (gapC [(0, l)]) :: .row 96 2 (.slice (some ⟨g9, 0, none⟩) 1 1) 1 (gapC [(0, s)]) :: .obj g7 (mapO ([]) 0) :: []) := (hM.both hM13 (noBld_cons (by simp) (noBld_cons (by simp) (noBld_quiet quietL_nil))) (noBld_cons (by simp) (noBld_quiet quietL_nil)))
 refine ⟨_, rfl, ?_⟩
 intro a hA
 refine seq_do (v := .agg #[.map (some g7), .int .i64 0, .int .i64 (((s : Nat) : Int)), .slice (some ⟨g9, 0, none⟩) 1 1, .int .i64 (((l : Nat) : Int)), .slice (some ⟨g12, 0, none⟩) 1 1]) hA rfl rfl rfl (does_build rfl (fun w => by kernel_rfl)) ?_
 intro a hA
 refine s_new (vs := [.map (some g7), .int .i64 0, .int .i64 (((s : Nat) : Int)), .slice (some ⟨g9, 0, none⟩) 1 1, .int .i64 (((l : Nat) : Int)), .slice (some ⟨g12, 0, none⟩) 1 1]) (t := 73) hA hM rfl rfl rfl (fun g => .pointer (some ⟨g, 0, none⟩)) (does_box rfl rfl) (by decide) ?_
 intro g15 w16 hM a hA
 refine seq_do hA rfl rfl rfl (does_assign rfl) ?_
 intro a hA
 refine seq_do hA rfl rfl rfl (does_assign rfl) ?_
 intro a hA
 refine seq_end ?_
 refine hK6 _ _ ?_
 refine wp_ret ?_
 refine hret _ _ ?_
 refine ends (v := .tuple #[.pointer (some ⟨g15, 0, none⟩), .int .i64 0]) hA rfl (.cons (res_tmp rfl) (.cons (res_tmp rfl) .nil)) rfl ?_
 replace hM : Mg w w16 (.row 96 2 (.slice (some ⟨g12, 0, none⟩) 1 1) 1 (gapC [(0, l)]) :: .obj g15 (.cells #[.map (some g7), .int .i64 0, .int .i64 (((s : Nat) : Int)), .slice (some ⟨g9, 0, none⟩) 1 1, .int .i64 (((l : Nat) : Int)), .slice (some ⟨g12, 0, none⟩) 1 1] 73) :: .row 96 2 (.slice (some ⟨g9, 0, none⟩) 1 1) 1 (gapC [(0, s)]) :: .obj g7 (mapO ([]) 0) :: []) := hM.bring 1 rfl rfl
 replace hM : Mg w w16 (.row 96 2 (.slice (some ⟨g9, 0, none⟩) 1 1) 1 (gapC [(0, s)]) :: .row 96 2 (.slice (some ⟨g12, 0, none⟩) 1 1) 1 (gapC [(0, l)]) :: .obj g15 (.cells #[.map (some g7), .int .i64 0, .int .i64 (((s : Nat) : Int)), .slice (some ⟨g9, 0, none⟩) 1 1, .int .i64 (((l : Nat) : Int)), .slice (some ⟨g12, 0, none⟩) 1 1] 73) :: .obj g7 (mapO ([]) 0) :: []) := hM.bring 2 rfl rfl
 replace hM : Mg w w16 (.obj g7 (mapO ([]) 0) :: .row 96 2 (.slice (some ⟨g9, 0, none⟩) 1 1) 1 (gapC [(0, s)]) :: .row 96 2 (.slice (some ⟨g12, 0, none⟩) 1 1) 1 (gapC [(0, l)]) :: .obj g15 (.cells #[.map (some g7), .int .i64 0, .int .i64 (((s : Nat) : Int)), .slice (some ⟨g9, 0, none⟩) 1 1, .int .i64 (((l : Nat) : Int)), .slice (some ⟨g12, 0, none⟩) 1 1] 73) :: []) := hM.bring 3 rfl rfl
 replace hM : Mg w w16 (.obj g15 (.cells #[.map (some g7), .int .i64 0, .int .i64 (((s : Nat) : Int)), .slice (some ⟨g9, 0, none⟩) 1 1, .int .i64 (((l : Nat) : Int)), .slice (some ⟨g12, 0, none⟩) 1 1] 73) :: .obj g7 (mapO ([]) 0) :: .row 96 2 (.slice (some ⟨g9, 0, none⟩) 1 1) 1 (gapC [(0, s)]) :: .row 96 2 (.slice (some ⟨g12, 0, none⟩) 1 1) 1 (gapC [(0, l)]) :: []) := hM.bring 3 rfl rfl
 exact ⟨_, _, _, _, rfl, hM⟩
end Go.Proofs.Ytcigofjajphmjaa
