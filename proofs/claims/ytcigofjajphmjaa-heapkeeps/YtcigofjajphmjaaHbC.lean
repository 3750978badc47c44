/- Walks of Alloc. -/
import Derived.Test.YtcigofjajphmjaaHbB
namespace Go.Proofs.Ytcigofjajphmjaa
open Go.RowKit
set_option linter.unusedVariables false
set_option linter.unusedSimpArgs false
set_option maxRecDepth 100000
theorem HbC_is1_3 : Is1 Try.prog 3 := ⟨⟨_, Try.underlying3, rfl⟩, by kernel_rfl⟩
theorem HbC_is1_67 : Is1 Try.prog 67 := ⟨⟨_, Try.underlying67, rfl⟩, by kernel_rfl⟩
theorem HbC_fld_73_0 : FieldAt Try.prog 73 0 0 := ⟨_, _, Try.underlying73, rfl, rfl, by kernel_rfl⟩
theorem HbC_fld_73_1 : FieldAt Try.prog 73 1 1 := ⟨_, _, Try.underlying73, rfl, rfl, by kernel_rfl⟩
theorem allocS_raw {w0 w : World} {h m last ss ls sc lc gg n i p s : Nat} {lg : Option Addr} {gs gl : List (Nat × Nat)} {os : List Ob} {T : List Ck} (h1 : 1 ≤ n) (hlg : decide (16 < ((n : Nat) : Int)) = false) (hla : last ≤ 4611686018427387904) (hnew : atK ((last + 1 : Nat) : Int) (os.map Ob.en) = none) (hgl : gs.length ≤ 1000000) (hi : idxG n gs = some i) (hat : gs[i]? = some (p, s)) (hns : n ≤ s) (hps : p + s ≤ 65536) (hM0 : Mg w0 w (.obj h (.cells #[.map (some m), .int .i64 (((last : Nat) : Int)), .int .i64 (((ss : Nat) : Int)), .slice (some ⟨gg, 0, none⟩) gs.length sc, .int .i64 (((ls : Nat) : Int)), .slice lg gl.length lc] 73) :: .obj m (mapO (os.map Ob.en) last) :: .row 96 2 (.slice (some ⟨gg, 0, none⟩) gs.length sc) gs.length (gapC gs) :: .row 96 2 (.slice lg gl.length lc) gl.length (gapC gl) :: T)) : Calls Try.prog 9 #[.pointer (some ⟨h, 0, none⟩), .int .i64 ((n : Nat) : Int)] w fun e w' => ∃ gr, e = .returned (.tuple #[.int .i64 ((last + 1 : Nat) : Int), .int .i64 0]) ∧ Mg w0 w' (.obj h (.cells #[.map (some m), .int .i64 (((last + 1 : Nat) : Int)), .int .i64 (((ss : Nat) : Int)), .slice (some ⟨gg, 0, none⟩) gs.length sc, .int .i64 (((ls : Nat) : Int)), .slice lg gl.length lc] 73) :: .obj m (mapO (os.map Ob.en ++ [⟨((last + 1 : Nat) : Int), .agg #[.int .i64 ((p : Nat) : Int), .slice (some ⟨gr, 0, none⟩) n n], last⟩]) (last + 1)) :: .row 96 2 (.slice (some ⟨gg, 0, none⟩) gs.length sc) gs.length (gapC (gs.set i (p + n, s - n))) :: .row 96 2 (.slice lg gl.length lc) gl.length (gapC gl) :: .row 32 2 (.slice (some ⟨gr, 0, none⟩) n n) n (cellC (List.replicate n (0, false))) :: T) := by
 have hn1 : decide (((n : Nat) : Int) < 1) = false := decide_eq_false (by omega)
 have hM : Mg w0 w (.obj h (.cells #[.map (some m), .int .i64 (((last : Nat) : Int)), .int .i64 (((ss : Nat) : Int)), .slice (some ⟨gg, 0, none⟩) gs.length sc, .int .i64 (((ls : Nat) : Int)), .slice lg gl.length lc] 73) :: .obj m (mapO (os.map Ob.en) last) :: .row 96 2 (.slice (some ⟨gg, 0, none⟩) gs.length sc) gs.length (gapC gs) :: .row 96 2 (.slice lg gl.length lc) gl.length (gapC gl) :: T) := hM0
 refine walk_of (l := [(0, .pointer (some ⟨h, 0, none⟩)), (1, .int .i64 (((n : Nat) : Int)))]) Try.func9 rfl Try.ntmps9 rfl rfl ?_
 intro Q hret hnorm hP a hA
 refine wp_seq_k (fun K1 hK1 => ?_)
 refine wp_region_lit ?_
 refine seq_do hA rfl rfl rfl (does_assign rfl) ?_
 intro a hA
 refine seq_do hA rfl rfl rfl (does_assign rfl) ?_
 intro a hA
 refine seq_end ?_
 refine hK1 _ _ ?_
 refine wp_seq_k (fun K2 hK2 => ?_)
 refine wp_seq_k (fun K3 hK3 => ?_)
 refine wp_region_lit ?_
 refine seq_do hA rfl rfl rfl (does_move rfl) ?_
 intro a hA
 refine seq_do (v := .bool false) hA rfl rfl rfl (does_bin rfl rfl (bin_nilN Try.underlying24)) ?_
 intro a hA
 refine seq_do hA rfl rfl rfl (does_move rfl) ?_
 intro a hA
 refine seq_do hA rfl rfl rfl (does_move rfl) ?_
 intro a hA
 refine seq_do (v := .bool false) hA rfl rfl rfl (does_bin rfl rfl (fun w => (bin_lss w).trans (by rw [show (decide (((n : Nat) : Int) < 1)) = false from hn1]))) ?_
 intro a hA
 refine seq_do (v := .bool false) hA rfl rfl rfl (does_pick rfl rfl rfl rfl) ?_
 intro a hA
 refine seq_end ?_
 refine hK3 _ _ ?_
 refine wp_cond_false (hA.ev rfl) ?_
 refine wp_skip ?_
 refine hK2 _ _ ?_
 refine wp_seq_k (fun K4 hK4 => ?_)
 refine wp_region_lit ?_
 refine seq_do hA rfl rfl rfl (does_move rfl) ?_
 intro a hA
 refine seq_do hA rfl rfl rfl (does_move rfl) ?_
 intro a hA
 refine seq_call hA rfl rfl rfl (enters_func rfl rfl (fun w => by kernel_rfl)) (areaS_any hlg) ?_
 rintro _ w6 ⟨rfl, hb5⟩
 replace hM := hM.call hb5
 refine ⟨_, rfl, ?_⟩
 intro a hA
 refine seq_do hA rfl rfl rfl (does_move rfl) ?_
 intro a hA
 replace hM : Mg w0 w6 (.row 96 2 (.slice lg gl.length lc) gl.length (gapC gl) :: .obj h (.cells #[.map (some m), .int .i64 (((last : Nat) : Int)), .int .i64 (((ss : Nat) : Int)), .slice (some ⟨gg, 0, none⟩) gs.length sc, .int .i64 (((ls : Nat) : Int)), .slice lg gl.length lc] 73) :: .obj m (mapO (os.map Ob.en) last) :: .row 96 2 (.slice (some ⟨gg, 0, none⟩) gs.length sc) gs.length (gapC gs) :: T) := hM.bring 3 rfl rfl
 replace hM : Mg w0 w6 (.row 96 2 (.slice (some ⟨gg, 0, none⟩) gs.length sc) gs.length (gapC gs) :: .row 96 2 (.slice lg gl.length lc) gl.length (gapC gl) :: .obj h (.cells #[.map (some m), .int .i64 (((last : Nat) : Int)), .int .i64 (((ss : Nat) : Int)), .slice (some ⟨gg, 0, none⟩) gs.length sc, .int .i64 (((ls : Nat) : Int)), .slice lg gl.length lc] 73) :: .obj m (mapO (os.map Ob.en) last) :: T) := hM.bring 3 rfl rfl
 replace hM : Mg w0 w6 (.obj m (mapO (os.map Ob.en) last) :: .row 96 2 (.slice (some ⟨gg, 0, none⟩) gs.length sc) gs.length (gapC gs) :: .row 96 2 (.slice lg gl.length lc) gl.length (gapC gl) :: .obj h (.cells #[.map (some m), .int .i64 (((last : Nat) : Int)), .int .i64 (((ss : Nat) : Int)), .slice (some ⟨gg, 0, none⟩) gs.length sc, .int .i64 (((ls : Nat) : Int)), .slice lg gl.length lc] 73) :: T) := hM.bring 3 rfl rfl
 replace hM : Mg w0 w6 (.obj h (.cells #[.map (some m), .int .i64 (((last : Nat) : Int)), .int .i64 (((ss : Nat) : Int)), .slice (some ⟨gg, 0, none⟩) gs.length sc, .int .i64 (((ls : Nat) : Int)), .slice lg gl.length lc] 73) :: .obj m (mapO (os.map Ob.en) last) :: .row 96 2 (.slice (some ⟨gg, 0, none⟩) gs.length sc) gs.length (gapC gs) :: .row 96 2 (.slice lg gl.length lc) gl.length (gapC gl) :: T) := hM.bring 3 rfl rfl
 refine seq_call hA rfl rfl rfl (enters_func rfl rfl (fun w => by kernel_rfl)) (takeS_hit (T := T) hgl hi hat hns hps hM) ?_
 rintro _ w8 ⟨rfl, hM7⟩
 replace hM : Mg w0 w8 (.obj h (.cells #[.map (some m), .int .i64 (((last : Nat) : Int)), .int .i64 (((ss : Nat) : Int)), .slice (some ⟨gg, 0, none⟩) gs.length sc, .int .i64 (((ls : Nat) : Int)), .slice lg gl.length lc] 73) :: .obj m (mapO (os.map Ob.en) last) :: .row 96 2 (.slice (some ⟨gg, 0, none⟩) gs.length sc) gs.length (gapC (gs.set i (p + n, s - n))) :: .row 96 2 (.slice lg gl.length lc) gl.length (gapC gl) :: T) := hM7
 refine ⟨_, rfl, ?_⟩
 intro a hA
 refine seq_do hA rfl rfl rfl (does_move rfl) ?_
 intro a hA
 refine seq_do (v := .int .i64 (((p : Nat) : Int))) hA rfl rfl rfl (does_extract (vs := [.int .i64 (((p : Nat) : Int)), .bool true]) rfl rfl) ?_
 intro a hA
 refine seq_do (v := .bool true) hA rfl rfl rfl (does_extract (vs := [.int .i64 (((p : Nat) : Int)), .bool true]) rfl rfl) ?_
 intro a hA
 refine seq_do hA rfl rfl rfl (does_assign rfl) ?_
 intro a hA
 refine seq_do hA rfl rfl rfl (does_assign rfl) ?_
 intro a hA
 refine seq_end ?_
 refine hK4 _ _ ?_
 refine wp_seq_k (fun K9 hK9 => ?_)
 refine wp_seq_k (fun K10 hK10 => ?_)
 refine wp_region_lit ?_
 refine seq_do hA rfl rfl rfl (does_move rfl) ?_
 intro a hA
 refine seq_do (v := .bool false) hA rfl rfl rfl (does_un rfl un_not) ?_
 intro a hA
 refine seq_end ?_
 refine hK10 _ _ ?_
 refine wp_cond_false (hA.ev rfl) ?_
 refine wp_skip ?_
 refine hK9 _ _ ?_
 refine wp_seq_k (fun K11 hK11 => ?_)
 refine wp_region_lit ?_
 refine seq_do hA rfl rfl rfl (does_move rfl) ?_
 intro a hA
 refine seq_do hA rfl rfl rfl (does_nilq rfl) ?_
 intro a hA
 refine seq_do (v := .pointer (some ⟨h, 1, none⟩)) hA rfl rfl rfl (does_field HbC_fld_73_1 rfl rfl) ?_
 intro a hA
 refine seq_do hA rfl rfl rfl (m_load1 hM HbC_is1_3 rfl 0 rfl rfl) ?_
 intro a hA
 refine seq_do (v := .int .i64 (((last + 1 : Nat) : Int))) hA rfl rfl rfl (does_bin rfl rfl (ar_add ((in_i64 (by omega) (by omega)).trans (by omega)))) ?_
 intro a hA
 refine seq_do hA rfl rfl rfl (does_nilq rfl) ?_
 intro a hA
 refine seq_do (v := .pointer (some ⟨h, 1, none⟩)) hA rfl rfl rfl (does_field HbC_fld_73_1 rfl rfl) ?_
 intro a hA
 refine s_store (us := [.map (some m), .int .i64 (((last + 1 : Nat) : Int)), .int .i64 (((ss : Nat) : Int)), .slice (some ⟨gg, 0, none⟩) gs.length sc, .int .i64 (((ls : Nat) : Int)), .slice lg gl.length lc]) (L' := (.obj h (.cells #[.map (some m), .int .i64 (((last + 1 : Nat) : Int)), .int .i64 (((ss : Nat) : Int)), .slice (some ⟨gg, 0, none⟩) gs.length sc, .int .i64 (((ls : Nat) : Int)), .slice lg gl.length lc] 73) :: .obj m (mapO (os.map Ob.en) last) :: .row 96 2 (.slice (some ⟨gg, 0, none⟩) gs.length sc) gs.length (gapC (gs.set i (p + n, s - n))) :: .row 96 2 (.slice lg gl.length lc) gl.length (gapC gl) :: T)) hA hM rfl rfl (m_store rfl rfl rfl (by kernel_rfl) hM 0 rfl rfl rfl) 0 rfl rfl rfl ?_
 intro w12 hM
 refine seq_end ?_
 refine hK11 _ _ ?_
 refine wp_seq_k (fun K13 hK13 => ?_)
 refine wp_draw (S := fun w1 => Mg w0 w1 (.obj h (.cells #[.map (some m), .int .i64 (((last + 1 : Nat) : Int)), .int .i64 (((ss : Nat) : Int)), .slice (some ⟨gg, 0, none⟩) gs.length sc, .int .i64 (((ls : Nat) : Int)), .slice lg gl.length lc] 73) :: [])) (by kernel_rfl) ?_
 replace hM := hM.drew
 refine any_tk hA 0 rfl rfl rfl rfl hP (hM.sub (.cons_cons _ (.cons _ (.cons _ (.cons _ (List.nil_sublist _)))))) (fun w1 hM => does_move rfl) ?_
 intro a hA
 refine any_tk hA 1 rfl rfl rfl rfl hP (hM.sub (.cons_cons _ (.cons _ (.cons _ (.cons _ (List.nil_sublist _)))))) (fun w1 hM => does_nilq rfl) ?_
 intro a hA
 refine any_tk (v := .pointer (some ⟨h, 0, none⟩)) hA 2 rfl rfl rfl rfl hP (hM.sub (.cons_cons _ (.cons _ (.cons _ (.cons _ (List.nil_sublist _)))))) (fun w1 hM => does_field HbC_fld_73_0 rfl rfl) ?_
 intro a hA
 refine any_tk hA 3 rfl rfl rfl rfl hP (hM.sub (.cons_cons _ (.cons _ (.cons _ (.cons _ (List.nil_sublist _)))))) (fun w1 hM => m_load1 hM HbC_is1_67 rfl 0 rfl rfl) ?_
 intro a hA
 refine any_tk hA 4 rfl rfl rfl rfl hP (hM.sub (.cons_cons _ (.cons _ (.cons _ (.cons _ (List.nil_sublist _)))))) (fun w1 hM => does_move rfl) ?_
 intro a hA
 refine any_tk hA 5 rfl rfl rfl rfl hP (hM.sub (.cons_cons _ (.cons _ (.cons _ (.cons _ (List.nil_sublist _)))))) (fun w1 hM => does_nilq rfl) ?_
 intro a hA
 refine any_tk (v := .pointer (some ⟨h, 1, none⟩)) hA 6 rfl rfl rfl rfl hP (hM.sub (.cons_cons _ (.cons _ (.cons _ (.cons _ (List.nil_sublist _)))))) (fun w1 hM => does_field HbC_fld_73_1 rfl rfl) ?_
 intro a hA
 refine any_tk hA 7 rfl rfl rfl rfl hP (hM.sub (.cons_cons _ (.cons _ (.cons _ (.cons _ (List.nil_sublist _)))))) (fun w1 hM => m_load1 hM HbC_is1_3 rfl 0 rfl rfl) ?_
 intro a hA
 refine any_tk hA 8 rfl rfl rfl rfl hP (hM.sub (.cons_cons _ (.cons _ (.cons _ (.cons _ (List.nil_sublist _)))))) (fun w1 hM => does_move rfl) ?_
 intro a hA
 refine any_tk hA 9 rfl rfl rfl rfl hP (hM.sub (.cons_cons _ (.cons _ (.cons _ (.cons _ (List.nil_sublist _)))))) (fun w1 hM => does_move rfl) ?_
 intro a hA
 refine any_one (by kernel_rfl) (g_makeE (z := .agg #[.int .i64 0, .bool false]) (sz := 2) (by_ := 16) (m := n) hA hM Try.underlying59 (by kernel_rfl) rfl rfl rfl 10 rfl rfl rfl rfl (by omega) (by omega) (.inl (by decide)) ?_)
 intro g14 w15 hM
 replace hM : Mg w0 w15 (.row 32 2 (.slice (some ⟨g14, 0, none⟩) n n) n (cellC (List.replicate n (0, false))) :: .obj h (.cells #[.map (some m), .int .i64 (((last + 1 : Nat) : Int)), .int .i64 (((ss : Nat) : Int)), .slice (some ⟨gg, 0, none⟩) gs.length sc, .int .i64 (((ls : Nat) : Int)), .slice lg gl.length lc] 73) :: .obj m (mapO (os.map Ob.en) last) :: .row 96 2 (.slice (some ⟨gg, 0, none⟩) gs.length sc) gs.length (gapC (gs.set i (p + n, s - n))) :: .row 96 2 (.slice lg gl.length lc) gl.length (gapC gl) :: T) := by rw [← cellC_made]; exact hM
 refine ⟨(hM.sub (.cons _ (.cons_cons _ (.cons _ (.cons _ (.cons _ (List.nil_sublist _))))))), ?_⟩
 intro a hA
 refine any_tk (v := .agg #[.int .i64 (((p : Nat) : Int)), .slice (some ⟨g14, 0, none⟩) n n]) hA 11 rfl rfl rfl rfl hP (hM.sub (.cons _ (.cons_cons _ (.cons _ (.cons _ (.cons _ (List.nil_sublist _))))))) (fun w1 hM => does_build rfl (fun w => by kernel_rfl)) ?_
 intro a hA
 refine any_one (by kernel_rfl) (g_setObj (L' := (.row 32 2 (.slice (some ⟨g14, 0, none⟩) n n) n (cellC (List.replicate n (0, false))) :: .obj h (.cells #[.map (some m), .int .i64 (((last + 1 : Nat) : Int)), .int .i64 (((ss : Nat) : Int)), .slice (some ⟨gg, 0, none⟩) gs.length sc, .int .i64 (((ls : Nat) : Int)), .slice lg gl.length lc] 73) :: .obj m (mapO (os.map Ob.en ++ [⟨((last + 1 : Nat) : Int), .agg #[.int .i64 (((p : Nat) : Int)), .slice (some ⟨g14, 0, none⟩) n n], last⟩]) (last + 1)) :: .row 96 2 (.slice (some ⟨gg, 0, none⟩) gs.length sc) gs.length (gapC (gs.set i (p + n, s - n))) :: .row 96 2 (.slice lg gl.length lc) gl.length (gapC gl) :: T)) hA hM 12 rfl rfl rfl (sets_new hM Try.underlying67 Try.underlying3 rfl rfl rfl 2 rfl hnew) 2 rfl (quiet_map _ _) rfl ?_)
 intro w16 hM
 refine ⟨(hM.sub (.cons _ (.cons_cons _ (.cons _ (.cons _ (.cons _ (List.nil_sublist _))))))), ?_⟩
 refine any_end (by kernel_rfl) ?_
 refine hK13 _ _ ?_
 refine wp_seq_k (fun K17 hK17 => ?_)
 refine wp_region_lit ?_
 refine seq_do hA rfl rfl rfl (does_move rfl) ?_
 intro a hA
 refine seq_do hA rfl rfl rfl (does_nilq rfl) ?_
 intro a hA
 refine seq_do (v := .pointer (some ⟨h, 1, none⟩)) hA rfl rfl rfl (does_field HbC_fld_73_1 rfl rfl) ?_
 intro a hA
 refine seq_do hA rfl rfl rfl (m_load1 hM HbC_is1_3 rfl 1 rfl rfl) ?_
 intro a hA
 refine seq_do hA rfl rfl rfl (does_assign rfl) ?_
 intro a hA
 refine seq_do hA rfl rfl rfl (does_assign rfl) ?_
 intro a hA
 refine seq_end ?_
 refine hK17 _ _ ?_
 refine wp_ret ?_
 refine hret _ _ ?_
 refine ends (v := .tuple #[.int .i64 (((last + 1 : Nat) : Int)), .int .i64 0]) hA rfl (.cons (res_tmp rfl) (.cons (res_tmp rfl) .nil)) rfl ?_
 replace hM : Mg w0 w16 (.row 96 2 (.slice lg gl.length lc) gl.length (gapC gl) :: .row 32 2 (.slice (some ⟨g14, 0, none⟩) n n) n (cellC (List.replicate n (0, false))) :: .obj h (.cells #[.map (some m), .int .i64 (((last + 1 : Nat) : Int)), .int .i64 (((ss : Nat) : Int)), .slice (some ⟨gg, 0, none⟩) gs.length sc, .int .i64 (((ls : Nat) : Int)), .slice lg gl.length lc] 73) :: .obj m (mapO (os.map Ob.en ++ [⟨((last + 1 : Nat) : Int), .agg #[.int .i64 (((p : Nat) : Int)), .slice (some ⟨g14, 0, none⟩) n n], last⟩]) (last + 1)) :: .row 96 2 (.slice (some ⟨gg, 0, none⟩) gs.length sc) gs.length (gapC (gs.set i (p + n, s - n))) :: T) := hM.bring 4 rfl rfl
 replace hM : Mg w0 w16 (.row 96 2 (.slice (some ⟨gg, 0, none⟩) gs.length sc) gs.length (gapC (gs.set i (p + n, s - n))) :: .row 96 2 (.slice lg gl.length lc) gl.length (gapC gl) :: .row 32 2 (.slice (some ⟨g14, 0, none⟩) n n) n (cellC (List.replicate n (0, false))) :: .obj h (.cells #[.map (some m), .int .i64 (((last + 1 : Nat) : Int)), .int .i64 (((ss : Nat) : Int)), .slice (some ⟨gg, 0, none⟩) gs.length sc, .int .i64 (((ls : Nat) : Int)), .slice lg gl.length lc] 73) :: .obj m (mapO (os.map Ob.en ++ [⟨((last + 1 : Nat) : Int), .agg #[.int .i64 (((p : Nat) : Int)), .slice (some ⟨g14, 0, none⟩) n n], last⟩]) (last + 1)) :: T) := hM.bring 4 rfl rfl
 replace hM : Mg w0 w16 (.obj m (mapO (os.map Ob.en ++ [⟨((last + 1 : Nat) : Int), .agg #[.int .i64 (((p : Nat) : Int)), .slice (some ⟨g14, 0, none⟩) n n], last⟩]) (last + 1)) :: .row 96 2 (.slice (some ⟨gg, 0, none⟩) gs.length sc) gs.length (gapC (gs.set i (p + n, s - n))) :: .row 96 2 (.slice lg gl.length lc) gl.length (gapC gl) :: .row 32 2 (.slice (some ⟨g14, 0, none⟩) n n) n (cellC (List.replicate n (0, false))) :: .obj h (.cells #[.map (some m), .int .i64 (((last + 1 : Nat) : Int)), .int .i64 (((ss : Nat) : Int)), .slice (some ⟨gg, 0, none⟩) gs.length sc, .int .i64 (((ls : Nat) : Int)), .slice lg gl.length lc] 73) :: T) := hM.bring 4 rfl rfl
 replace hM : Mg w0 w16 (.obj h (.cells #[.map (some m), .int .i64 (((last + 1 : Nat) : Int)), .int .i64 (((ss : Nat) : Int)), .slice (some ⟨gg, 0, none⟩) gs.length sc, .int .i64 (((ls : Nat) : Int)), .slice lg gl.length lc] 73) :: .obj m (mapO (os.map Ob.en ++ [⟨((last + 1 : Nat) : Int), .agg #[.int .i64 (((p : Nat) : Int)), .slice (some ⟨g14, 0, none⟩) n n], last⟩]) (last + 1)) :: .row 96 2 (.slice (some ⟨gg, 0, none⟩) gs.length sc) gs.length (gapC (gs.set i (p + n, s - n))) :: .row 96 2 (.slice lg gl.length lc) gl.length (gapC gl) :: .row 32 2 (.slice (some ⟨g14, 0, none⟩) n n) n (cellC (List.replicate n (0, false))) :: T) := hM.bring 4 rfl rfl
 exact ⟨_, rfl, hM⟩
theorem allocS_full {w0 w : World} {n : Nat} {h m last ss ls sc lc : Nat} {sg lg : Option Addr} {gs gl : List (Nat × Nat)} {os : List Ob} {T : List Ck} (h1 : 1 ≤ n) (hlg : decide (16 < ((n : Nat) : Int)) = false) (hgl : gs.length ≤ 1000000) (hi : idxG n gs = none) (hM0 : Mg w0 w (.obj h (.cells #[.map (some m), .int .i64 (((last : Nat) : Int)), .int .i64 (((ss : Nat) : Int)), .slice sg gs.length sc, .int .i64 (((ls : Nat) : Int)), .slice lg gl.length lc] 73) :: .obj m (mapO (os.map Ob.en) last) :: .row 96 2 (.slice sg gs.length sc) gs.length (gapC gs) :: .row 96 2 (.slice lg gl.length lc) gl.length (gapC gl) :: T)) : Calls Try.prog 9 #[.pointer (some ⟨h, 0, none⟩), .int .i64 ((n : Nat) : Int)] w fun e w' => e = .returned (.tuple #[.int .i64 0, .int .i64 9]) ∧ Mg w0 w' (.obj h (.cells #[.map (some m), .int .i64 (((last : Nat) : Int)), .int .i64 (((ss : Nat) : Int)), .slice sg gs.length sc, .int .i64 (((ls : Nat) : Int)), .slice lg gl.length lc] 73) :: .obj m (mapO (os.map Ob.en) last) :: .row 96 2 (.slice sg gs.length sc) gs.length (gapC gs) :: .row 96 2 (.slice lg gl.length lc) gl.length (gapC gl) :: T) := by
 have hn1 : decide (((n : Nat) : Int) < 1) = false := decide_eq_false (by omega)
 have hM : Mg w0 w (.obj h (.cells #[.map (some m), .int .i64 (((last : Nat) : Int)), .int .i64 (((ss : Nat) : Int)), .slice sg gs.length sc, .int .i64 (((ls : Nat) : Int)), .slice lg gl.length lc] 73) :: .obj m (mapO (os.map Ob.en) last) :: .row 96 2 (.slice sg gs.length sc) gs.length (gapC gs) :: .row 96 2 (.slice lg gl.length lc) gl.length (gapC gl) :: T) := hM0
 refine walk_of (l := [(0, .pointer (some ⟨h, 0, none⟩)), (1, .int .i64 (((n : Nat) : Int)))]) Try.func9 rfl Try.ntmps9 rfl rfl ?_
 intro Q hret hnorm hP a hA
 refine wp_seq_k (fun K1 hK1 => ?_)
 refine wp_region_lit ?_
 refine seq_do hA rfl rfl rfl (does_assign rfl) ?_
 intro a hA
 refine seq_do hA rfl rfl rfl (does_assign rfl) ?_
 intro a hA
 refine seq_end ?_
 refine hK1 _ _ ?_
 refine wp_seq_k (fun K2 hK2 => ?_)
 refine wp_seq_k (fun K3 hK3 => ?_)
 refine wp_region_lit ?_
 refine seq_do hA rfl rfl rfl (does_move rfl) ?_
 intro a hA
 refine seq_do (v := .bool false) hA rfl rfl rfl (does_bin rfl rfl (bin_nilN Try.underlying24)) ?_
 intro a hA
 refine seq_do hA rfl rfl rfl (does_move rfl) ?_
 intro a hA
 refine seq_do hA rfl rfl rfl (does_move rfl) ?_
 intro a hA
 refine seq_do (v := .bool false) hA rfl rfl rfl (does_bin rfl rfl (fun w => (bin_lss w).trans (by rw [show (decide (((n : Nat) : Int) < 1)) = false from hn1]))) ?_
 intro a hA
 refine seq_do (v := .bool false) hA rfl rfl rfl (does_pick rfl rfl rfl rfl) ?_
 intro a hA
 refine seq_end ?_
 refine hK3 _ _ ?_
 refine wp_cond_false (hA.ev rfl) ?_
 refine wp_skip ?_
 refine hK2 _ _ ?_
 refine wp_seq_k (fun K4 hK4 => ?_)
 refine wp_region_lit ?_
 refine seq_do hA rfl rfl rfl (does_move rfl) ?_
 intro a hA
 refine seq_do hA rfl rfl rfl (does_move rfl) ?_
 intro a hA
 refine seq_call hA rfl rfl rfl (enters_func rfl rfl (fun w => by kernel_rfl)) (areaS_any hlg) ?_
 rintro _ w6 ⟨rfl, hb5⟩
 replace hM := hM.call hb5
 refine ⟨_, rfl, ?_⟩
 intro a hA
 refine seq_do hA rfl rfl rfl (does_move rfl) ?_
 intro a hA
 replace hM : Mg w0 w6 (.row 96 2 (.slice lg gl.length lc) gl.length (gapC gl) :: .obj h (.cells #[.map (some m), .int .i64 (((last : Nat) : Int)), .int .i64 (((ss : Nat) : Int)), .slice sg gs.length sc, .int .i64 (((ls : Nat) : Int)), .slice lg gl.length lc] 73) :: .obj m (mapO (os.map Ob.en) last) :: .row 96 2 (.slice sg gs.length sc) gs.length (gapC gs) :: T) := hM.bring 3 rfl rfl
 replace hM : Mg w0 w6 (.row 96 2 (.slice sg gs.length sc) gs.length (gapC gs) :: .row 96 2 (.slice lg gl.length lc) gl.length (gapC gl) :: .obj h (.cells #[.map (some m), .int .i64 (((last : Nat) : Int)), .int .i64 (((ss : Nat) : Int)), .slice sg gs.length sc, .int .i64 (((ls : Nat) : Int)), .slice lg gl.length lc] 73) :: .obj m (mapO (os.map Ob.en) last) :: T) := hM.bring 3 rfl rfl
 replace hM : Mg w0 w6 (.obj m (mapO (os.map Ob.en) last) :: .row 96 2 (.slice sg gs.length sc) gs.length (gapC gs) :: .row 96 2 (.slice lg gl.length lc) gl.length (gapC gl) :: .obj h (.cells #[.map (some m), .int .i64 (((last : Nat) : Int)), .int .i64 (((ss : Nat) : Int)), .slice sg gs.length sc, .int .i64 (((ls : Nat) : Int)), .slice lg gl.length lc] 73) :: T) := hM.bring 3 rfl rfl
 replace hM : Mg w0 w6 (.obj h (.cells #[.map (some m), .int .i64 (((last : Nat) : Int)), .int .i64 (((ss : Nat) : Int)), .slice sg gs.length sc, .int .i64 (((ls : Nat) : Int)), .slice lg gl.length lc] 73) :: .obj m (mapO (os.map Ob.en) last) :: .row 96 2 (.slice sg gs.length sc) gs.length (gapC gs) :: .row 96 2 (.slice lg gl.length lc) gl.length (gapC gl) :: T) := hM.bring 3 rfl rfl
 refine seq_call hA rfl rfl rfl (enters_func rfl rfl (fun w => by kernel_rfl)) (takeS_miss (T := T) hgl hi hM) ?_
 rintro _ w8 ⟨rfl, hM7⟩
 replace hM : Mg w0 w8 (.obj h (.cells #[.map (some m), .int .i64 (((last : Nat) : Int)), .int .i64 (((ss : Nat) : Int)), .slice sg gs.length sc, .int .i64 (((ls : Nat) : Int)), .slice lg gl.length lc] 73) :: .obj m (mapO (os.map Ob.en) last) :: .row 96 2 (.slice sg gs.length sc) gs.length (gapC gs) :: .row 96 2 (.slice lg gl.length lc) gl.length (gapC gl) :: T) := hM7
 refine ⟨_, rfl, ?_⟩
 intro a hA
 refine seq_do hA rfl rfl rfl (does_move rfl) ?_
 intro a hA
 refine seq_do (v := .int .i64 0) hA rfl rfl rfl (does_extract (vs := [.int .i64 0, .bool false]) rfl rfl) ?_
 intro a hA
 refine seq_do (v := .bool false) hA rfl rfl rfl (does_extract (vs := [.int .i64 0, .bool false]) rfl rfl) ?_
 intro a hA
 refine seq_do hA rfl rfl rfl (does_assign rfl) ?_
 intro a hA
 refine seq_do hA rfl rfl rfl (does_assign rfl) ?_
 intro a hA
 refine seq_end ?_
 refine hK4 _ _ ?_
 refine wp_seq_k (fun K9 hK9 => ?_)
 refine wp_seq_k (fun K10 hK10 => ?_)
 refine wp_region_lit ?_
 refine seq_do hA rfl rfl rfl (does_move rfl) ?_
 intro a hA
 refine seq_do (v := .bool true) hA rfl rfl rfl (does_un rfl un_not) ?_
 intro a hA
 refine seq_end ?_
 refine hK10 _ _ ?_
 refine wp_cond_true (hA.ev rfl) ?_
 refine wp_seq_k (fun K11 hK11 => ?_)
 refine wp_region_lit ?_
 refine seq_do hA rfl rfl rfl (does_assign rfl) ?_
 intro a hA
 refine seq_do hA rfl rfl rfl (does_assign rfl) ?_
 intro a hA
 refine seq_end ?_
 refine hK11 _ _ ?_
 refine wp_ret ?_
 refine hret _ _ ?_
 refine ends (v := .tuple #[.int .i64 0, .int .i64 9]) hA rfl (.cons (res_tmp rfl) (.cons (res_tmp rfl) .nil)) rfl ?_
 replace hM : Mg w0 w8 (.row 96 2 (.slice lg gl.length lc) gl.length (gapC gl) :: .obj h (.cells #[.map (some m), .int .i64 (((last : Nat) : Int)), .int .i64 (((ss : Nat) : Int)), .slice sg gs.length sc, .int .i64 (((ls : Nat) : Int)), .slice lg gl.length lc] 73) :: .obj m (mapO (os.map Ob.en) last) :: .row 96 2 (.slice sg gs.length sc) gs.length (gapC gs) :: T) := hM.bring 3 rfl rfl
 replace hM : Mg w0 w8 (.row 96 2 (.slice sg gs.length sc) gs.length (gapC gs) :: .row 96 2 (.slice lg gl.length lc) gl.length (gapC gl) :: .obj h (.cells #[.map (some m), .int .i64 (((last : Nat) : Int)), .int .i64 (((ss : Nat) : Int)), .slice sg gs.length sc, .int .i64 (((ls : Nat) : Int)), .slice lg gl.length lc] 73) :: .obj m (mapO (os.map Ob.en) last) :: T) := hM.bring 3 rfl rfl
 replace hM : Mg w0 w8 (.obj m (mapO (os.map Ob.en) last) :: .row 96 2 (.slice sg gs.length sc) gs.length (gapC gs) :: .row 96 2 (.slice lg gl.length lc) gl.length (gapC gl) :: .obj h (.cells #[.map (some m), .int .i64 (((last : Nat) : Int)), .int .i64 (((ss : Nat) : Int)), .slice sg gs.length sc, .int .i64 (((ls : Nat) : Int)), .slice lg gl.length lc] 73) :: T) := hM.bring 3 rfl rfl
 replace hM : Mg w0 w8 (.obj h (.cells #[.map (some m), .int .i64 (((last : Nat) : Int)), .int .i64 (((ss : Nat) : Int)), .slice sg gs.length sc, .int .i64 (((ls : Nat) : Int)), .slice lg gl.length lc] 73) :: .obj m (mapO (os.map Ob.en) last) :: .row 96 2 (.slice sg gs.length sc) gs.length (gapC gs) :: .row 96 2 (.slice lg gl.length lc) gl.length (gapC gl) :: T) := hM.bring 3 rfl rfl
 exact ⟨rfl, hM⟩
theorem allocL_raw {w0 w : World} {h m last ss ls sc lc gg n i p s : Nat} {sg : Option Addr} {gs gl : List (Nat × Nat)} {os : List Ob} {T : List Ck} (h1 : 1 ≤ n) (hlg : decide (16 < ((n : Nat) : Int)) = true) (hla : last ≤ 4611686018427387904) (hnew : atK ((last + 1 : Nat) : Int) (os.map Ob.en) = none) (hgl : gl.length ≤ 1000000) (hi : idxG n gl = some i) (hat : gl[i]? = some (p, s)) (hns : n ≤ s) (hps : p + s ≤ 65536) (hM0 : Mg w0 w (.obj h (.cells #[.map (some m), .int .i64 (((last : Nat) : Int)), .int .i64 (((ss : Nat) : Int)), .slice sg gs.length sc, .int .i64 (((ls : Nat) : Int)), .slice (some ⟨gg, 0, none⟩) gl.length lc] 73) :: .obj m (mapO (os.map Ob.en) last) :: .row 96 2 (.slice sg gs.length sc) gs.length (gapC gs) :: .row 96 2 (.slice (some ⟨gg, 0, none⟩) gl.length lc) gl.length (gapC gl) :: T)) : Calls Try.prog 9 #[.pointer (some ⟨h, 0, none⟩), .int .i64 ((n : Nat) : Int)] w fun e w' => ∃ gr, e = .returned (.tuple #[.int .i64 ((last + 1 : Nat) : Int), .int .i64 0]) ∧ Mg w0 w' (.obj h (.cells #[.map (some m), .int .i64 (((last + 1 : Nat) : Int)), .int .i64 (((ss : Nat) : Int)), .slice sg gs.length sc, .int .i64 (((ls : Nat) : Int)), .slice (some ⟨gg, 0, none⟩) gl.length lc] 73) :: .obj m (mapO (os.map Ob.en ++ [⟨((last + 1 : Nat) : Int), .agg #[.int .i64 ((p : Nat) : Int), .slice (some ⟨gr, 0, none⟩) n n], last⟩]) (last + 1)) :: .row 96 2 (.slice sg gs.length sc) gs.length (gapC gs) :: .row 96 2 (.slice (some ⟨gg, 0, none⟩) gl.length lc) gl.length (gapC (gl.set i (p + n, s - n))) :: .row 32 2 (.slice (some ⟨gr, 0, none⟩) n n) n (cellC (List.replicate n (0, false))) :: T) := by
 have hn1 : decide (((n : Nat) : Int) < 1) = false := decide_eq_false (by omega)
 have hM : Mg w0 w (.obj h (.cells #[.map (some m), .int .i64 (((last : Nat) : Int)), .int .i64 (((ss : Nat) : Int)), .slice sg gs.length sc, .int .i64 (((ls : Nat) : Int)), .slice (some ⟨gg, 0, none⟩) gl.length lc] 73) :: .obj m (mapO (os.map Ob.en) last) :: .row 96 2 (.slice sg gs.length sc) gs.length (gapC gs) :: .row 96 2 (.slice (some ⟨gg, 0, none⟩) gl.length lc) gl.length (gapC gl) :: T) := hM0
 refine walk_of (l := [(0, .pointer (some ⟨h, 0, none⟩)), (1, .int .i64 (((n : Nat) : Int)))]) Try.func9 rfl Try.ntmps9 rfl rfl ?_
 intro Q hret hnorm hP a hA
 refine wp_seq_k (fun K1 hK1 => ?_)
 refine wp_region_lit ?_
 refine seq_do hA rfl rfl rfl (does_assign rfl) ?_
 intro a hA
 refine seq_do hA rfl rfl rfl (does_assign rfl) ?_
 intro a hA
 refine seq_end ?_
 refine hK1 _ _ ?_
 refine wp_seq_k (fun K2 hK2 => ?_)
 refine wp_seq_k (fun K3 hK3 => ?_)
 refine wp_region_lit ?_
 refine seq_do hA rfl rfl rfl (does_move rfl) ?_
 intro a hA
 refine seq_do (v := .bool false) hA rfl rfl rfl (does_bin rfl rfl (bin_nilN Try.underlying24)) ?_
 intro a hA
 refine seq_do hA rfl rfl rfl (does_move rfl) ?_
 intro a hA
 refine seq_do hA rfl rfl rfl (does_move rfl) ?_
 intro a hA
 refine seq_do (v := .bool false) hA rfl rfl rfl (does_bin rfl rfl (fun w => (bin_lss w).trans (by rw [show (decide (((n : Nat) : Int) < 1)) = false from hn1]))) ?_
 intro a hA
 refine seq_do (v := .bool false) hA rfl rfl rfl (does_pick rfl rfl rfl rfl) ?_
 intro a hA
 refine seq_end ?_
 refine hK3 _ _ ?_
 refine wp_cond_false (hA.ev rfl) ?_
 refine wp_skip ?_
 refine hK2 _ _ ?_
 refine wp_seq_k (fun K4 hK4 => ?_)
 refine wp_region_lit ?_
 refine seq_do hA rfl rfl rfl (does_move rfl) ?_
 intro a hA
 refine seq_do hA rfl rfl rfl (does_move rfl) ?_
 intro a hA
 refine seq_call hA rfl rfl rfl (enters_func rfl rfl (fun w => by kernel_rfl)) (areaL_any hlg) ?_
 rintro _ w6 ⟨rfl, hb5⟩
 replace hM := hM.call hb5
 refine ⟨_, rfl, ?_⟩
 intro a hA
 refine seq_do hA rfl rfl rfl (does_move rfl) ?_
 intro a hA
 replace hM : Mg w0 w6 (.row 96 2 (.slice (some ⟨gg, 0, none⟩) gl.length lc) gl.length (gapC gl) :: .obj h (.cells #[.map (some m), .int .i64 (((last : Nat) : Int)), .int .i64 (((ss : Nat) : Int)), .slice sg gs.length sc, .int .i64 (((ls : Nat) : Int)), .slice (some ⟨gg, 0, none⟩) gl.length lc] 73) :: .obj m (mapO (os.map Ob.en) last) :: .row 96 2 (.slice sg gs.length sc) gs.length (gapC gs) :: T) := hM.bring 3 rfl rfl
 replace hM : Mg w0 w6 (.row 96 2 (.slice sg gs.length sc) gs.length (gapC gs) :: .row 96 2 (.slice (some ⟨gg, 0, none⟩) gl.length lc) gl.length (gapC gl) :: .obj h (.cells #[.map (some m), .int .i64 (((last : Nat) : Int)), .int .i64 (((ss : Nat) : Int)), .slice sg gs.length sc, .int .i64 (((ls : Nat) : Int)), .slice (some ⟨gg, 0, none⟩) gl.length lc] 73) :: .obj m (mapO (os.map Ob.en) last) :: T) := hM.bring 3 rfl rfl
 replace hM : Mg w0 w6 (.obj m (mapO (os.map Ob.en) last) :: .row 96 2 (.slice sg gs.length sc) gs.length (gapC gs) :: .row 96 2 (.slice (some ⟨gg, 0, none⟩) gl.length lc) gl.length (gapC gl) :: .obj h (.cells #[.map (some m), .int .i64 (((last : Nat) : Int)), .int .i64 (((ss : Nat) : Int)), .slice sg gs.length sc, .int .i64 (((ls : Nat) : Int)), .slice (some ⟨gg, 0, none⟩) gl.length lc] 73) :: T) := hM.bring 3 rfl rfl
 replace hM : Mg w0 w6 (.obj h (.cells #[.map (some m), .int .i64 (((last : Nat) : Int)), .int .i64 (((ss : Nat) : Int)), .slice sg gs.length sc, .int .i64 (((ls : Nat) : Int)), .slice (some ⟨gg, 0, none⟩) gl.length lc] 73) :: .obj m (mapO (os.map Ob.en) last) :: .row 96 2 (.slice sg gs.length sc) gs.length (gapC gs) :: .row 96 2 (.slice (some ⟨gg, 0, none⟩) gl.length lc) gl.length (gapC gl) :: T) := hM.bring 3 rfl rfl
 refine seq_call hA rfl rfl rfl (enters_func rfl rfl (fun w => by kernel_rfl)) (takeL_hit (T := T) hgl hi hat hns hps hM) ?_
 rintro _ w8 ⟨rfl, hM7⟩
 replace hM : Mg w0 w8 (.obj h (.cells #[.map (some m), .int .i64 (((last : Nat) : Int)), .int .i64 (((ss : Nat) : Int)), .slice sg gs.length sc, .int .i64 (((ls : Nat) : Int)), .slice (some ⟨gg, 0, none⟩) gl.length lc] 73) :: .obj m (mapO (os.map Ob.en) last) :: .row 96 2 (.slice sg gs.length sc) gs.length (gapC gs) :: .row 96 2 (.slice (some ⟨gg, 0, none⟩) gl.length lc) gl.length (gapC (gl.set i (p + n, s - n))) :: T) := hM7
 refine ⟨_, rfl, ?_⟩
 intro a hA
 refine seq_do hA rfl rfl rfl (does_move rfl) ?_
 intro a hA
 refine seq_do (v := .int .i64 (((p : Nat) : Int))) hA rfl rfl rfl (does_extract (vs := [.int .i64 (((p : Nat) : Int)), .bool true]) rfl rfl) ?_
 intro a hA
 refine seq_do (v := .bool true) hA rfl rfl rfl (does_extract (vs := [.int .i64 (((p : Nat) : Int)), .bool true]) rfl rfl) ?_
 intro a hA
 refine seq_do hA rfl rfl rfl (does_assign rfl) ?_
 intro a hA
 refine seq_do hA rfl rfl rfl (does_assign rfl) ?_
 intro a hA
 refine seq_end ?_
 refine hK4 _ _ ?_
 refine wp_seq_k (fun K9 hK9 => ?_)
 refine wp_seq_k (fun K10 hK10 => ?_)
 refine wp_region_lit ?_
 refine seq_do hA rfl rfl rfl (does_move rfl) ?_
 intro a hA
 refine seq_do (v := .bool false) hA rfl rfl rfl (does_un rfl un_not) ?_
 intro a hA
 refine seq_end ?_
 refine hK10 _ _ ?_
 refine wp_cond_false (hA.ev rfl) ?_
 refine wp_skip ?_
 refine hK9 _ _ ?_
 refine wp_seq_k (fun K11 hK11 => ?_)
 refine wp_region_lit ?_
 refine seq_do hA rfl rfl rfl (does_move rfl) ?_
 intro a hA
 refine seq_do hA rfl rfl rfl (does_nilq rfl) ?_
 intro a hA
 refine seq_do (v := .pointer (some ⟨h, 1, none⟩)) hA rfl rfl rfl (does_field HbC_fld_73_1 rfl rfl) ?_
 intro a hA
 refine seq_do hA rfl rfl rfl (m_load1 hM HbC_is1_3 rfl 0 rfl rfl) ?_
 intro a hA
 refine seq_do (v := .int .i64 (((last + 1 : Nat) : Int))) hA rfl rfl rfl (does_bin rfl rfl (ar_add ((in_i64 (by omega) (by omega)).trans (by omega)))) ?_
 intro a hA
 refine seq_do hA rfl rfl rfl (does_nilq rfl) ?_
 intro a hA
 refine seq_do (v := .pointer (some ⟨h, 1, none⟩)) hA rfl rfl rfl (does_field HbC_fld_73_1 rfl rfl) ?_
 intro a hA
 refine s_store (us := [.map (some m), .int .i64 (((last + 1 : Nat) : Int)), .int .i64 (((ss : Nat) : Int)), .slice sg gs.length sc, .int .i64 (((ls : Nat) : Int)), .slice (some ⟨gg, 0, none⟩) gl.length lc]) (L' := (.obj h (.cells #[.map (some m), .int .i64 (((last + 1 : Nat) : Int)), .int .i64 (((ss : Nat) : Int)), .slice sg gs.length sc, .int .i64 (((ls : Nat) : Int)), .slice (some ⟨gg, 0, none⟩) gl.length lc] 73) :: .obj m (mapO (os.map Ob.en) last) :: .row 96 2 (.slice sg gs.length sc) gs.length (gapC gs) :: .row 96 2 (.slice (some ⟨gg, 0, none⟩) gl.length lc) gl.length (gapC (gl.set i (p + n, s - n))) :: T)) hA hM rfl rfl (m_store rfl rfl rfl (by kernel_rfl) hM 0 rfl rfl rfl) 0 rfl rfl rfl ?_
 intro w12 hM
 refine seq_end ?_
 refine hK11 _ _ ?_
 refine wp_seq_k (fun K13 hK13 => ?_)
 refine wp_draw (S := fun w1 => Mg w0 w1 (.obj h (.cells #[.map (some m), .int .i64 (((last + 1 : Nat) : Int)), .int .i64 (((ss : Nat) : Int)), .slice sg gs.length sc, .int .i64 (((ls : Nat) : Int)), .slice (some ⟨gg, 0, none⟩) gl.length lc] 73) :: [])) (by kernel_rfl) ?_
 replace hM := hM.drew
 refine any_tk hA 0 rfl rfl rfl rfl hP (hM.sub (.cons_cons _ (.cons _ (.cons _ (.cons _ (List.nil_sublist _)))))) (fun w1 hM => does_move rfl) ?_
 intro a hA
 refine any_tk hA 1 rfl rfl rfl rfl hP (hM.sub (.cons_cons _ (.cons _ (.cons _ (.cons _ (List.nil_sublist _)))))) (fun w1 hM => does_nilq rfl) ?_
 intro a hA
 refine any_tk (v := .pointer (some ⟨h, 0, none⟩)) hA 2 rfl rfl rfl rfl hP (hM.sub (.cons_cons _ (.cons _ (.cons _ (.cons _ (List.nil_sublist _)))))) (fun w1 hM => does_field HbC_fld_73_0 rfl rfl) ?_
 intro a hA
 refine any_tk hA 3 rfl rfl rfl rfl hP (hM.sub (.cons_cons _ (.cons _ (.cons _ (.cons _ (List.nil_sublist _)))))) (fun w1 hM => m_load1 hM HbC_is1_67 rfl 0 rfl rfl) ?_
 intro a hA
 refine any_tk hA 4 rfl rfl rfl rfl hP (hM.sub (.cons_cons _ (.cons _ (.cons _ (.cons _ (List.nil_sublist _)))))) (fun w1 hM => does_move rfl) ?_
 intro a hA
 refine any_tk hA 5 rfl rfl rfl rfl hP (hM.sub (.cons_cons _ (.cons _ (.cons _ (.cons _ (List.nil_sublist _)))))) (fun w1 hM => does_nilq rfl) ?_
 intro a hA
 refine any_tk (v := .pointer (some ⟨h, 1, none⟩)) hA 6 rfl rfl rfl rfl hP (hM.sub (.cons_cons _ (.cons _ (.cons _ (.cons _ (List.nil_sublist _)))))) (fun w1 hM => does_field HbC_fld_73_1 rfl rfl) ?_
 intro a hA
 refine any_tk hA 7 rfl rfl rfl rfl hP (hM.sub (.cons_cons _ (.cons _ (.cons _ (.cons _ (List.nil_sublist _)))))) (fun w1 hM => m_load1 hM HbC_is1_3 rfl 0 rfl rfl) ?_
 intro a hA
 refine any_tk hA 8 rfl rfl rfl rfl hP (hM.sub (.cons_cons _ (.cons _ (.cons _ (.cons _ (List.nil_sublist _)))))) (fun w1 hM => does_move rfl) ?_
 intro a hA
 refine any_tk hA 9 rfl rfl rfl rfl hP (hM.sub (.cons_cons _ (.cons _ (.cons _ (.cons _ (List.nil_sublist _)))))) (fun w1 hM => does_move rfl) ?_
 intro a hA
 refine any_one (by kernel_rfl) (g_makeE (z := .agg #[.int .i64 0, .bool false]) (sz := 2) (by_ := 16) (m := n) hA hM Try.underlying59 (by kernel_rfl) rfl rfl rfl 10 rfl rfl rfl rfl (by omega) (by omega) (.inl (by decide)) ?_)
 intro g14 w15 hM
 replace hM : Mg w0 w15 (.row 32 2 (.slice (some ⟨g14, 0, none⟩) n n) n (cellC (List.replicate n (0, false))) :: .obj h (.cells #[.map (some m), .int .i64 (((last + 1 : Nat) : Int)), .int .i64 (((ss : Nat) : Int)), .slice sg gs.length sc, .int .i64 (((ls : Nat) : Int)), .slice (some ⟨gg, 0, none⟩) gl.length lc] 73) :: .obj m (mapO (os.map Ob.en) last) :: .row 96 2 (.slice sg gs.length sc) gs.length (gapC gs) :: .row 96 2 (.slice (some ⟨gg, 0, none⟩) gl.length lc) gl.length (gapC (gl.set i (p + n, s - n))) :: T) := by rw [← cellC_made]; exact hM
 refine ⟨(hM.sub (.cons _ (.cons_cons _ (.cons _ (.cons _ (.cons _ (List.nil_sublist _))))))), ?_⟩
 intro a hA
 refine any_tk (v := .agg #[.int .i64 (((p : Nat) : Int)), .slice (some ⟨g14, 0, none⟩) n n]) hA 11 rfl rfl rfl rfl hP (hM.sub (.cons _ (.cons_cons _ (.cons _ (.cons _ (.cons _ (List.nil_sublist _))))))) (fun w1 hM => does_build rfl (fun w => by kernel_rfl)) ?_
 intro a hA
 refine any_one (by kernel_rfl) (g_setObj (L' := (.row 32 2 (.slice (some ⟨g14, 0, none⟩) n n) n (cellC (List.replicate n (0, false))) :: .obj h (.cells #[.map (some m), .int .i64 (((last + 1 : Nat) : Int)), .int .i64 (((ss : Nat) : Int)), .slice sg gs.length sc, .int .i64 (((ls : Nat) : Int)), .slice (some ⟨gg, 0, none⟩) gl.length lc] 73) :: .obj m (mapO (os.map Ob.en ++ [⟨((last + 1 : Nat) : Int), .agg #[.int .i64 (((p : Nat) : Int)), .slice (some ⟨g14, 0, none⟩) n n], last⟩]) (last + 1)) :: .row 96 2 (.slice sg gs.length sc) gs.length (gapC gs) :: .row 96 2 (.slice (some ⟨gg, 0, none⟩) gl.length lc) gl.length (gapC (gl.set i (p + n, s - n))) :: T)) hA hM 12 rfl rfl rfl (sets_new hM Try.underlying67 Try.underlying3 rfl rfl rfl 2 rfl hnew) 2 rfl (quiet_map _ _) rfl ?_)
 intro w16 hM
 refine ⟨(hM.sub (.cons _ (.cons_cons _ (.cons _ (.cons _ (.cons _ (List.nil_sublist _))))))), ?_⟩
 refine any_end (by kernel_rfl) ?_
 refine hK13 _ _ ?_
 refine wp_seq_k (fun K17 hK17 => ?_)
 refine wp_region_lit ?_
 refine seq_do hA rfl rfl rfl (does_move rfl) ?_
 intro a hA
 refine seq_do hA rfl rfl rfl (does_nilq rfl) ?_
 intro a hA
 refine seq_do (v := .pointer (some ⟨h, 1, none⟩)) hA rfl rfl rfl (does_field HbC_fld_73_1 rfl rfl) ?_
 intro a hA
 refine seq_do hA rfl rfl rfl (m_load1 hM HbC_is1_3 rfl 1 rfl rfl) ?_
 intro a hA
 refine seq_do hA rfl rfl rfl (does_assign rfl) ?_
 intro a hA
 refine seq_do hA rfl rfl rfl (does_assign rfl) ?_
 intro a hA
 refine seq_end ?_
 refine hK17 _ _ ?_
 refine wp_ret ?_
 refine hret _ _ ?_
 refine ends (v := .tuple #[.int .i64 (((last + 1 : Nat) : Int)), .int .i64 0]) hA rfl (.cons (res_tmp rfl) (.cons (res_tmp rfl) .nil)) rfl ?_
 replace hM : Mg w0 w16 (.row 96 2 (.slice (some ⟨gg, 0, none⟩) gl.length lc) gl.length (gapC (gl.set i (p + n, s - n))) :: .row 32 2 (.slice (some ⟨g14, 0, none⟩) n n) n (cellC (List.replicate n (0, false))) :: .obj h (.cells #[.map (some m), .int .i64 (((last + 1 : Nat) : Int)), .int .i64 (((ss : Nat) : Int)), .slice sg gs.length sc, .int .i64 (((ls : Nat) : Int)), .slice (some ⟨gg, 0, none⟩) gl.length lc] 73) :: .obj m (mapO (os.map Ob.en ++ [⟨((last + 1 : Nat) : Int), .agg #[.int .i64 (((p : Nat) : Int)), .slice (some ⟨g14, 0, none⟩) n n], last⟩]) (last + 1)) :: .row 96 2 (.slice sg gs.length sc) gs.length (gapC gs) :: T) := hM.bring 4 rfl rfl
 replace hM : Mg w0 w16 (.row 96 2 (.slice sg gs.length sc) gs.length (gapC gs) :: .row 96 2 (.slice (some ⟨gg, 0, none⟩) gl.length lc) gl.length (gapC (gl.set i (p + n, s - n))) :: .row 32 2 (.slice (some ⟨g14, 0, none⟩) n n) n (cellC (List.replicate n (0, false))) :: .obj h (.cells #[.map (some m), .int .i64 (((last + 1 : Nat) : Int)), .int .i64 (((ss : Nat) : Int)), .slice sg gs.length sc, .int .i64 (((ls : Nat) : Int)), .slice (some ⟨gg, 0, none⟩) gl.length lc] 73) :: .obj m (mapO (os.map Ob.en ++ [⟨((last + 1 : Nat) : Int), .agg #[.int .i64 (((p : Nat) : Int)), .slice (some ⟨g14, 0, none⟩) n n], last⟩]) (last + 1)) :: T) := hM.bring 4 rfl rfl
 replace hM : Mg w0 w16 (.obj m (mapO (os.map Ob.en ++ [⟨((last + 1 : Nat) : Int), .agg #[.int .i64 (((p : Nat) : Int)), .slice (some ⟨g14, 0, none⟩) n n], last⟩]) (last + 1)) :: .row 96 2 (.slice sg gs.length sc) gs.length (gapC gs) :: .row 96 2 (.slice (some ⟨gg, 0, none⟩) gl.length lc) gl.length (gapC (gl.set i (p + n, s - n))) :: .row 32 2 (.slice (some ⟨g14, 0, none⟩) n n) n (cellC (List.replicate n (0, false))) :: .obj h (.cells #[.map (some m), .int .i64 (((last + 1 : Nat) : Int)), .int .i64 (((ss : Nat) : Int)), .slice sg gs.length sc, .int .i64 (((ls : Nat) : Int)), .slice (some ⟨gg, 0, none⟩) gl.length lc] 73) :: T) := hM.bring 4 rfl rfl
 replace hM : Mg w0 w16 (.obj h (.cells #[.map (some m), .int .i64 (((last + 1 : Nat) : Int)), .int .i64 (((ss : Nat) : Int)), .slice sg gs.length sc, .int .i64 (((ls : Nat) : Int)), .slice (some ⟨gg, 0, none⟩) gl.length lc] 73) :: .obj m (mapO (os.map Ob.en ++ [⟨((last + 1 : Nat) : Int), .agg #[.int .i64 (((p : Nat) : Int)), .slice (some ⟨g14, 0, none⟩) n n], last⟩]) (last + 1)) :: .row 96 2 (.slice sg gs.length sc) gs.length (gapC gs) :: .row 96 2 (.slice (some ⟨gg, 0, none⟩) gl.length lc) gl.length (gapC (gl.set i (p + n, s - n))) :: .row 32 2 (.slice (some ⟨g14, 0, none⟩) n n) n (cellC (List.replicate n (0, false))) :: T) := hM.bring 4 rfl rfl
 exact ⟨_, rfl, hM⟩
theorem allocL_full {w0 w : World} {n : Nat} {h m last ss ls sc lc : Nat} {sg lg : Option Addr} {gs gl : List (Nat × Nat)} {os : List Ob} {T : List Ck} (h1 : 1 ≤ n) (hlg : decide (16 < ((n : Nat) : Int)) = true) (hgl : gl.length ≤ 1000000) (hi : idxG n gl = none) (hM0 : Mg w0 w (.obj h (.cells #[.map (some m), .int .i64 (((last : Nat) : Int)), .int .i64 (((ss : Nat) : Int)), .slice sg gs.length sc, .int .i64 (((ls : Nat) : Int)), .slice lg gl.length lc] 73) :: .obj m (mapO (os.map Ob.en) last) :: .row 96 2 (.slice sg gs.length sc) gs.length (gapC gs) :: .row 96 2 (.slice lg gl.length lc) gl.length (gapC gl) :: T)) : Calls Try.prog 9 #[.pointer (some ⟨h, 0, none⟩), .int .i64 ((n : Nat) : Int)] w fun e w' => e = .returned (.tuple #[.int .i64 0, .int .i64 9]) ∧ Mg w0 w' (.obj h (.cells #[.map (some m), .int .i64 (((last : Nat) : Int)), .int .i64 (((ss : Nat) : Int)), .slice sg gs.length sc, .int .i64 (((ls : Nat) : Int)), .slice lg gl.length lc] 73) :: .obj m (mapO (os.map Ob.en) last) :: .row 96 2 (.slice sg gs.length sc) gs.length (gapC gs) :: .row 96 2 (.slice lg gl.length lc) gl.length (gapC gl) :: T) := by
 have hn1 : decide (((n : Nat) : Int) < 1) = false := decide_eq_false (by omega)
 have hM : Mg w0 w (.obj h (.cells #[.map (some m), .int .i64 (((last : Nat) : Int)), .int .i64 (((ss : Nat) : Int)), .slice sg gs.length sc, .int .i64 (((ls : Nat) : Int)), .slice lg gl.length lc] 73) :: .obj m (mapO (os.map Ob.en) last) :: .row 96 2 (.slice sg gs.length sc) gs.length (gapC gs) :: .row 96 2 (.slice lg gl.length lc) gl.length (gapC gl) :: T) := hM0
 refine walk_of (l := [(0, .pointer (some ⟨h, 0, none⟩)), (1, .int .i64 (((n : Nat) : Int)))]) Try.func9 rfl Try.ntmps9 rfl rfl ?_
 intro Q hret hnorm hP a hA
 refine wp_seq_k (fun K1 hK1 => ?_)
 refine wp_region_lit ?_
 refine seq_do hA rfl rfl rfl (does_assign rfl) ?_
 intro a hA
 refine seq_do hA rfl rfl rfl (does_assign rfl) ?_
 intro a hA
 refine seq_end ?_
 refine hK1 _ _ ?_
 refine wp_seq_k (fun K2 hK2 => ?_)
 refine wp_seq_k (fun K3 hK3 => ?_)
 refine wp_region_lit ?_
 refine seq_do hA rfl rfl rfl (does_move rfl) ?_
 intro a hA
 refine seq_do (v := .bool false) hA rfl rfl rfl (does_bin rfl rfl (bin_nilN Try.underlying24)) ?_
 intro a hA
 refine seq_do hA rfl rfl rfl (does_move rfl) ?_
 intro a hA
 refine seq_do hA rfl rfl rfl (does_move rfl) ?_
 intro a hA
 refine seq_do (v := .bool false) hA rfl rfl rfl (does_bin rfl rfl (fun w => (bin_lss w).trans (by rw [show (decide (((n : Nat) : Int) < 1)) = false from hn1]))) ?_
 intro a hA
 refine seq_do (v := .bool false) hA rfl rfl rfl (does_pick rfl rfl rfl rfl) ?_
 intro a hA
 refine seq_end ?_
 refine hK3 _ _ ?_
 refine wp_cond_false (hA.ev rfl) ?_
 refine wp_skip ?_
 refine hK2 _ _ ?_
 refine wp_seq_k (fun K4 hK4 => ?_)
 refine wp_region_lit ?_
 refine seq_do hA rfl rfl rfl (does_move rfl) ?_
 intro a hA
 refine seq_do hA rfl rfl rfl (does_move rfl) ?_
 intro a hA
 refine seq_call hA rfl rfl rfl (enters_func rfl rfl (fun w => by kernel_rfl)) (areaL_any hlg) ?_
 rintro _ w6 ⟨rfl, hb5⟩
 replace hM := hM.call hb5
 refine ⟨_, rfl, ?_⟩
 intro a hA
 refine seq_do hA rfl rfl rfl (does_move rfl) ?_
 intro a hA
 replace hM : Mg w0 w6 (.row 96 2 (.slice lg gl.length lc) gl.length (gapC gl) :: .obj h (.cells #[.map (some m), .int .i64 (((last : Nat) : Int)), .int .i64 (((ss : Nat) : Int)), .slice sg gs.length sc, .int .i64 (((ls : Nat) : Int)), .slice lg gl.length lc] 73) :: .obj m (mapO (os.map Ob.en) last) :: .row 96 2 (.slice sg gs.length sc) gs.length (gapC gs) :: T) := hM.bring 3 rfl rfl
 replace hM : Mg w0 w6 (.row 96 2 (.slice sg gs.length sc) gs.length (gapC gs) :: .row 96 2 (.slice lg gl.length lc) gl.length (gapC gl) :: .obj h (.cells #[.map (some m), .int .i64 (((last : Nat) : Int)), .int .i64 (((ss : Nat) : Int)), .slice sg gs.length sc, .int .i64 (((ls : Nat) : Int)), .slice lg gl.length lc] 73) :: .obj m (mapO (os.map Ob.en) last) :: T) := hM.bring 3 rfl rfl
 replace hM : Mg w0 w6 (.obj m (mapO (os.map Ob.en) last) :: .row 96 2 (.slice sg gs.length sc) gs.length (gapC gs) :: .row 96 2 (.slice lg gl.length lc) gl.length (gapC gl) :: .obj h (.cells #[.map (some m), .int .i64 (((last : Nat) : Int)), .int .i64 (((ss : Nat) : Int)), .slice sg gs.length sc, .int .i64 (((ls : Nat) : Int)), .slice lg gl.length lc] 73) :: T) := hM.bring 3 rfl rfl
 replace hM : Mg w0 w6 (.obj h (.cells #[.map (some m), .int .i64 (((last : Nat) : Int)), .int .i64 (((ss : Nat) : Int)), .slice sg gs.length sc, .int .i64 (((ls : Nat) : Int)), .slice lg gl.length lc] 73) :: .obj m (mapO (os.map Ob.en) last) :: .row 96 2 (.slice sg gs.length sc) gs.length (gapC gs) :: .row 96 2 (.slice lg gl.length lc) gl.length (gapC gl) :: T) := hM.bring 3 rfl rfl
 refine seq_call hA rfl rfl rfl (enters_func rfl rfl (fun w => by kernel_rfl)) (takeL_miss (T := T) hgl hi hM) ?_
 rintro _ w8 ⟨rfl, hM7⟩
 replace hM : Mg w0 w8 (.obj h (.cells #[.map (some m), .int .i64 (((last : Nat) : Int)), .int .i64 (((ss : Nat) : Int)), .slice sg gs.length sc, .int .i64 (((ls : Nat) : Int)), .slice lg gl.length lc] 73) :: .obj m (mapO (os.map Ob.en) last) :: .row 96 2 (.slice sg gs.length sc) gs.length (gapC gs) :: .row 96 2 (.slice lg gl.length lc) gl.length (gapC gl) :: T) := hM7
 refine ⟨_, rfl, ?_⟩
 intro a hA
 refine seq_do hA rfl rfl rfl (does_move rfl) ?_
 intro a hA
 refine seq_do (v := .int .i64 0) hA rfl rfl rfl (does_extract (vs := [.int .i64 0, .bool false]) rfl rfl) ?_
 intro a hA
 refine seq_do (v := .bool false) hA rfl rfl rfl (does_extract (vs := [.int .i64 0, .bool false]) rfl rfl) ?_
 intro a hA
 refine seq_do hA rfl rfl rfl (does_assign rfl) ?_
 intro a hA
 refine seq_do hA rfl rfl rfl (does_assign rfl) ?_
 intro a hA
 refine seq_end ?_
 refine hK4 _ _ ?_
 refine wp_seq_k (fun K9 hK9 => ?_)
 refine wp_seq_k (fun K10 hK10 => ?_)
 refine wp_region_lit ?_
 refine seq_do hA rfl rfl rfl (does_move rfl) ?_
 intro a hA
 refine seq_do (v := .bool true) hA rfl rfl rfl (does_un rfl un_not) ?_
 intro a hA
 refine seq_end ?_
 refine hK10 _ _ ?_
 refine wp_cond_true (hA.ev rfl) ?_
 refine wp_seq_k (fun K11 hK11 => ?_)
 refine wp_region_lit ?_
 refine seq_do hA rfl rfl rfl (does_assign rfl) ?_
 intro a hA
 refine seq_do hA rfl rfl rfl (does_assign rfl) ?_
 intro a hA
 refine seq_end ?_
 refine hK11 _ _ ?_
 refine wp_ret ?_
 refine hret _ _ ?_
 refine ends (v := .tuple #[.int .i64 0, .int .i64 9]) hA rfl (.cons (res_tmp rfl) (.cons (res_tmp rfl) .nil)) rfl ?_
 replace hM : Mg w0 w8 (.row 96 2 (.slice lg gl.length lc) gl.length (gapC gl) :: .obj h (.cells #[.map (some m), .int .i64 (((last : Nat) : Int)), .int .i64 (((ss : Nat) : Int)), .slice sg gs.length sc, .int .i64 (((ls : Nat) : Int)), .slice lg gl.length lc] 73) :: .obj m (mapO (os.map Ob.en) last) :: .row 96 2 (.slice sg gs.length sc) gs.length (gapC gs) :: T) := hM.bring 3 rfl rfl
 replace hM : Mg w0 w8 (.row 96 2 (.slice sg gs.length sc) gs.length (gapC gs) :: .row 96 2 (.slice lg gl.length lc) gl.length (gapC gl) :: .obj h (.cells #[.map (some m), .int .i64 (((last : Nat) : Int)), .int .i64 (((ss : Nat) : Int)), .slice sg gs.length sc, .int .i64 (((ls : Nat) : Int)), .slice lg gl.length lc] 73) :: .obj m (mapO (os.map Ob.en) last) :: T) := hM.bring 3 rfl rfl
 replace hM : Mg w0 w8 (.obj m (mapO (os.map Ob.en) last) :: .row 96 2 (.slice sg gs.length sc) gs.length (gapC gs) :: .row 96 2 (.slice lg gl.length lc) gl.length (gapC gl) :: .obj h (.cells #[.map (some m), .int .i64 (((last : Nat) : Int)), .int .i64 (((ss : Nat) : Int)), .slice sg gs.length sc, .int .i64 (((ls : Nat) : Int)), .slice lg gl.length lc] 73) :: T) := hM.bring 3 rfl rfl
 replace hM : Mg w0 w8 (.obj h (.cells #[.map (some m), .int .i64 (((last : Nat) : Int)), .int .i64 (((ss : Nat) : Int)), .slice sg gs.length sc, .int .i64 (((ls : Nat) : Int)), .slice lg gl.length lc] 73) :: .obj m (mapO (os.map Ob.en) last) :: .row 96 2 (.slice sg gs.length sc) gs.length (gapC gs) :: .row 96 2 (.slice lg gl.length lc) gl.length (gapC gl) :: T) := hM.bring 3 rfl rfl
 exact ⟨rfl, hM⟩
theorem alloc_nil {w : World} {n : Int} : Calls Try.prog 9 #[.pointer none, .int .i64 n] w fun e w' => e = .returned (.tuple #[.int .i64 0, .int .i64 1]) ∧ Below w.heap.size w w' := by
 have hM : Mg w w ([]) := Mg.start w
 refine walk_of (l := [(0, .pointer none), (1, .int .i64 n)]) Try.func9 rfl Try.ntmps9 rfl rfl ?_
 intro Q hret hnorm hP a hA
 refine wp_seq_k (fun K1 hK1 => ?_)
 refine wp_region_lit ?_
 refine seq_do hA rfl rfl rfl (does_assign rfl) ?_
 intro a hA
 refine seq_do hA rfl rfl rfl (does_assign rfl) ?_
 intro a hA
 refine seq_end ?_
 refine hK1 _ _ ?_
 refine wp_seq_k (fun K2 hK2 => ?_)
 refine wp_seq_k (fun K3 hK3 => ?_)
 refine wp_region_lit ?_
 refine seq_do hA rfl rfl rfl (does_move rfl) ?_
 intro a hA
 refine seq_do (v := .bool true) hA rfl rfl rfl (does_bin rfl rfl (bin_nilY Try.underlying24)) ?_
 intro a hA
 refine seq_do hA rfl rfl rfl (does_move rfl) ?_
 intro a hA
 refine seq_skip hA rfl rfl rfl ?_
 intro a hA
 refine seq_skip hA rfl rfl rfl ?_
 intro a hA
 refine seq_do (v := .bool true) hA rfl rfl rfl (does_pick rfl rfl rfl rfl) ?_
 intro a hA
 refine seq_end ?_
 refine hK3 _ _ ?_
 refine wp_cond_true (hA.ev rfl) ?_
 refine wp_seq_k (fun K4 hK4 => ?_)
 refine wp_region_lit ?_
 refine seq_do hA rfl rfl rfl (does_assign rfl) ?_
 intro a hA
 refine seq_do hA rfl rfl rfl (does_assign rfl) ?_
 intro a hA
 refine seq_end ?_
 refine hK4 _ _ ?_
 refine wp_ret ?_
 refine hret _ _ ?_
 refine ends (v := .tuple #[.int .i64 0, .int .i64 1]) hA rfl (.cons (res_tmp rfl) (.cons (res_tmp rfl) .nil)) rfl ?_
 exact ⟨rfl, hM.bel⟩
theorem alloc_bad {w : World} {h : Nat} {n : Int} (hn : decide (n < 1) = true) : Calls Try.prog 9 #[.pointer (some ⟨h, 0, none⟩), .int .i64 n] w fun e w' => e = .returned (.tuple #[.int .i64 0, .int .i64 1]) ∧ Below w.heap.size w w' := by
 have hM : Mg w w ([]) := Mg.start w
 refine walk_of (l := [(0, .pointer (some ⟨h, 0, none⟩)), (1, .int .i64 n)]) Try.func9 rfl Try.ntmps9 rfl rfl ?_
 intro Q hret hnorm hP a hA
 refine wp_seq_k (fun K1 hK1 => ?_)
 refine wp_region_lit ?_
 refine seq_do hA rfl rfl rfl (does_assign rfl) ?_
 intro a hA
 refine seq_do hA rfl rfl rfl (does_assign rfl) ?_
 intro a hA
 refine seq_end ?_
 refine hK1 _ _ ?_
 refine wp_seq_k (fun K2 hK2 => ?_)
 refine wp_seq_k (fun K3 hK3 => ?_)
 refine wp_region_lit ?_
 refine seq_do hA rfl rfl rfl (does_move rfl) ?_
 intro a hA
 refine seq_do (v := .bool false) hA rfl rfl rfl (does_bin rfl rfl (bin_nilN Try.underlying24)) ?_
 intro a hA
 refine seq_do hA rfl rfl rfl (does_move rfl) ?_
 intro a hA
 refine seq_do hA rfl rfl rfl (does_move rfl) ?_
 intro a hA
 refine seq_do (v := .bool true) hA rfl rfl rfl (does_bin rfl rfl (fun w => (bin_lss w).trans (by rw [show (decide (n < 1)) = true from hn]))) ?_
 intro a hA
 refine seq_do (v := .bool true) hA rfl rfl rfl (does_pick rfl rfl rfl rfl) ?_
 intro a hA
 refine seq_end ?_
 refine hK3 _ _ ?_
 refine wp_cond_true (hA.ev rfl) ?_
 refine wp_seq_k (fun K4 hK4 => ?_)
 refine wp_region_lit ?_
 refine seq_do hA rfl rfl rfl (does_assign rfl) ?_
 intro a hA
 refine seq_do hA rfl rfl rfl (does_assign rfl) ?_
 intro a hA
 refine seq_end ?_
 refine hK4 _ _ ?_
 refine wp_ret ?_
 refine hret _ _ ?_
 refine ends (v := .tuple #[.int .i64 0, .int .i64 1]) hA rfl (.cons (res_tmp rfl) (.cons (res_tmp rfl) .nil)) rfl ?_
 exact ⟨rfl, hM.bel⟩
end Go.Proofs.Ytcigofjajphmjaa
