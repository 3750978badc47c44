/- Walks of Collect. -/
import Derived.Test.YtcigofjajphmjaaHbH
namespace Go.Proofs.Ytcigofjajphmjaa
open Go.RowKit
set_option linter.unusedVariables false
set_option linter.unusedSimpArgs false
set_option maxRecDepth 100000
theorem HbI_is1_3 : Is1 Try.prog 3 := ⟨⟨_, Try.underlying3, rfl⟩, by kernel_rfl⟩
theorem HbI_fld_73_2 : FieldAt Try.prog 73 2 2 := ⟨_, _, Try.underlying73, rfl, rfl, by kernel_rfl⟩
theorem HbI_fld_73_3 : FieldAt Try.prog 73 3 4 := ⟨_, _, Try.underlying73, rfl, rfl, by kernel_rfl⟩
theorem collect_any {w0 w : World} {h m last ss ls sc lc : Nat} {sg lg : Option Addr} {gs gl : List (Nat × Nat)} {os : List Ob} {X : List Ck} {rs : List Int} {ro : Option Addr} {rc : Nat} (hnT : noBld (os.map Ob.row ++ X)) (hx : Hx os last) (hol : os.length ≤ 1000000) (hcl : ∀ o ∈ os, o.ws.length ≤ 1000000) (hsw : sumW os ≤ 1000000000) (hsS : sumS os ≤ 65536) (hss : ss ≤ 65536) (hls : ls ≤ 65536) (hpp : ∀ o ∈ os, o.p ≤ 65536) (hrf : Refs os) (hrl : rs.length ≤ 1000000000) (hrs : ∀ r ∈ rs, r = 0 ∨ (fO r os).isSome = true) (hM0 : Mg w0 w (.obj h (.cells #[.map (some m), .int .i64 (((last : Nat) : Int)), .int .i64 (((ss : Nat) : Int)), .slice sg gs.length sc, .int .i64 (((ls : Nat) : Int)), .slice lg gl.length lc] 73) :: .obj m (mapO (os.map Ob.en) last) :: .row 96 2 (.slice sg gs.length sc) gs.length (gapC gs) :: .row 96 2 (.slice lg gl.length lc) gl.length (gapC gl) :: .row 3 1 (.slice ro rs.length rc) rs.length (intC rs) :: (os.map Ob.row ++ X))) : Calls Try.prog 15 #[.pointer (some ⟨h, 0, none⟩), .slice ro rs.length rc] w fun e w' => ∃ ws zs zl sg' sc' lg' lc', e = .returned (.tuple #[.int .i64 ((sumW (went ws os) : Nat) : Int), .int .i64 0]) ∧ (Vs os rs ws ∧ (∀ x, x ∈ ws ↔ Rc os rs x) ∧ zs.Perm ((mvD 0 (stay ws os)).filter (stP false)) ∧ ByP zs ∧ zl.Perm ((mvD 0 (stay ws os)).filter (stP true)) ∧ ByP zl) ∧ Mg w0 w' (.obj h (.cells #[.map (some m), .int .i64 (((last : Nat) : Int)), .int .i64 (((ss : Nat) : Int)), .slice sg' ((freeG ss zs).length) sc', .int .i64 (((ls : Nat) : Int)), .slice lg' ((freeG ls zl).length) lc'] 73) :: .obj m (mapO ((mvD 0 (stay ws os)).map Ob.en) last) :: .row 96 2 (.slice sg' ((freeG ss zs).length) sc') ((freeG ss zs).length) (gapC (freeG ss zs)) :: .row 96 2 (.slice lg' ((freeG ls zl).length) lc') ((freeG ls zl).length) (gapC (freeG ls zl)) :: .row 3 1 (.slice ro rs.length rc) rs.length (intC rs) :: (os.map Ob.row ++ X)) := by
 have hM : Mg w0 w (.obj h (.cells #[.map (some m), .int .i64 (((last : Nat) : Int)), .int .i64 (((ss : Nat) : Int)), .slice sg gs.length sc, .int .i64 (((ls : Nat) : Int)), .slice lg gl.length lc] 73) :: .obj m (mapO (os.map Ob.en) last) :: .row 96 2 (.slice sg gs.length sc) gs.length (gapC gs) :: .row 96 2 (.slice lg gl.length lc) gl.length (gapC gl) :: .row 3 1 (.slice ro rs.length rc) rs.length (intC rs) :: (os.map Ob.row ++ X)) := hM0
 refine walk_of (l := [(0, .pointer (some ⟨h, 0, none⟩)), (1, .slice ro rs.length rc)]) Try.func15 rfl Try.ntmps15 rfl rfl ?_
 intro Q hret hnorm hP a hA
 refine wp_seq_k (fun K1 hK1 => ?_)
 refine wp_region_lit ?_
 refine seq_do hA rfl rfl rfl (does_assign rfl) ?_
 intro a hA
 refine seq_do hA rfl rfl rfl (does_assign rfl) ?_
 intro a hA
 refine seq_end ?_
 refine hK1 _ _ ?_
 refine wp_seq_k (fun K2 hK2 => ?_)
 refine wp_seq_k (fun K3 hK3 => ?_)
 refine wp_region_lit ?_
 refine seq_do hA rfl rfl rfl (does_move rfl) ?_
 intro a hA
 refine seq_do (v := .bool false) hA rfl rfl rfl (does_bin rfl rfl (bin_nilN Try.underlying24)) ?_
 intro a hA
 refine seq_end ?_
 refine hK3 _ _ ?_
 refine wp_cond_false (hA.ev rfl) ?_
 refine wp_skip ?_
 refine hK2 _ _ ?_
 refine wp_seq_k (fun K4 hK4 => ?_)
 refine wp_seq_k (fun K5 hK5 => ?_)
 refine wp_region_lit ?_
 refine seq_do hA rfl rfl rfl (does_move rfl) ?_
 intro a hA
 refine seq_do (v := .int .i64 (((rs.length : Nat) : Int))) hA rfl rfl rfl (does_len Try.underlying33 rfl) ?_
 intro a hA
 refine seq_do hA rfl rfl rfl (does_move rfl) ?_
 intro a hA
 refine seq_end ?_
 refine hK5 _ _ ?_
 refine wp_block ?_
 refine wp_loop_n (fun m_ a w1 => ∃ (i : Nat), m_ = 1 + (rs.length - i) ∧ (i ≤ rs.length) ∧ Sl a 42 [(0, .pointer (some ⟨h, 0, none⟩)), (1, .slice ro rs.length rc), (9, .pointer (some ⟨h, 0, none⟩)), (10, .bool false), (11, .slice ro rs.length rc), (12, .int .i64 (((rs.length : Nat) : Int))), (13, .int .i64 (((i : Nat) : Int)))] ∧ Mg w0 w1 (.obj h (.cells #[.map (some m), .int .i64 (((last : Nat) : Int)), .int .i64 (((ss : Nat) : Int)), .slice sg gs.length sc, .int .i64 (((ls : Nat) : Int)), .slice lg gl.length lc] 73) :: .obj m (mapO (os.map Ob.en) last) :: .row 96 2 (.slice sg gs.length sc) gs.length (gapC gs) :: .row 96 2 (.slice lg gl.length lc) gl.length (gapC gl) :: .row 3 1 (.slice ro rs.length rc) rs.length (intC rs) :: (os.map Ob.row ++ X))) _ ⟨0, rfl, Nat.zero_le _, hA.keep _ ⟨rfl, rfl, rfl, rfl, rfl, rfl, rfl, trivial⟩, hM⟩ ?_
 clear hM hA
 rintro m_ a w6 ⟨i, rfl, hinv8, hA, hM⟩ K7 hK7
 refine wp_seq_k (fun K9 hK9 => ?_)
 refine wp_region_lit ?_
 rcases Bool.eq_false_or_eq_true (decide (((i : Nat) : Int) < ((rs.length : Nat) : Int))) with hb10 | hb10
 · have hb10' := of_decide_eq_true hb10
   refine seq_do (v := .bool true) hA rfl rfl rfl (does_bin rfl rfl (fun w => (bin_lss w).trans (by rw [hb10]))) ?_
   intro a hA
   refine seq_end ?_
   refine hK9 _ _ ?_
   refine wp_seq_k (fun K11 hK11 => ?_)
   refine wp_cond_true (hA.ev rfl) ?_
   refine wp_skip ?_
   refine hK11 _ _ ?_
   refine wp_seq_k (fun K12 hK12 => ?_)
   refine wp_block ?_
   refine wp_seq_k (fun K13 hK13 => ?_)
   obtain ⟨gr, hgr⟩ := row_someH (hM.has 4 rfl) (show rs.length ≠ 0 by omega)
   obtain ⟨z, hz⟩ : ∃ z, rs[i]? = some z := ⟨_, List.getElem?_eq_getElem (show i < rs.length by omega)⟩
   have hnm : (z == 0 || (fO z os).isSome) = true := (hrs z (List.mem_of_getElem? hz)).elim (fun k => by rw [k]; rfl) (fun k => by rw [k, Bool.or_true])
   refine wp_region_lit ?_
   refine seq_do (v := .pointer (some ⟨gr, i * 1, none⟩)) hA rfl rfl rfl (does_ixO (k := i) Try.underlying33 (by kernel_rfl) rfl rfl rfl hgr (by omega)) ?_
   intro a hA
   refine seq_do (v := .int .i64 z) hA rfl rfl rfl (m_ldO1 (j := i * 1) hM 4 rfl hgr (by rw [Nat.mul_one]; exact intC_at hz) HbI_is1_3 rfl) ?_
   intro a hA
   refine seq_do hA rfl rfl rfl (does_assign rfl) ?_
   intro a hA
   refine seq_end ?_
   refine hK13 _ _ ?_
   refine wp_seq_k (fun K14 hK14 => ?_)
   refine wp_region_lit ?_
   refine seq_do hA rfl rfl rfl (does_move rfl) ?_
   intro a hA
   refine seq_do hA rfl rfl rfl (does_move rfl) ?_
   intro a hA
   replace hM : Mg w0 w6 (.row 96 2 (.slice lg gl.length lc) gl.length (gapC gl) :: .obj h (.cells #[.map (some m), .int .i64 (((last : Nat) : Int)), .int .i64 (((ss : Nat) : Int)), .slice sg gs.length sc, .int .i64 (((ls : Nat) : Int)), .slice lg gl.length lc] 73) :: .obj m (mapO (os.map Ob.en) last) :: .row 96 2 (.slice sg gs.length sc) gs.length (gapC gs) :: .row 3 1 (.slice ro rs.length rc) rs.length (intC rs) :: (os.map Ob.row ++ X)) := hM.bring 3 rfl rfl
   replace hM : Mg w0 w6 (.row 96 2 (.slice sg gs.length sc) gs.length (gapC gs) :: .row 96 2 (.slice lg gl.length lc) gl.length (gapC gl) :: .obj h (.cells #[.map (some m), .int .i64 (((last : Nat) : Int)), .int .i64 (((ss : Nat) : Int)), .slice sg gs.length sc, .int .i64 (((ls : Nat) : Int)), .slice lg gl.length lc] 73) :: .obj m (mapO (os.map Ob.en) last) :: .row 3 1 (.slice ro rs.length rc) rs.length (intC rs) :: (os.map Ob.row ++ X)) := hM.bring 3 rfl rfl
   replace hM : Mg w0 w6 (.obj m (mapO (os.map Ob.en) last) :: .row 96 2 (.slice sg gs.length sc) gs.length (gapC gs) :: .row 96 2 (.slice lg gl.length lc) gl.length (gapC gl) :: .obj h (.cells #[.map (some m), .int .i64 (((last : Nat) : Int)), .int .i64 (((ss : Nat) : Int)), .slice sg gs.length sc, .int .i64 (((ls : Nat) : Int)), .slice lg gl.length lc] 73) :: .row 3 1 (.slice ro rs.length rc) rs.length (intC rs) :: (os.map Ob.row ++ X)) := hM.bring 3 rfl rfl
   replace hM : Mg w0 w6 (.obj h (.cells #[.map (some m), .int .i64 (((last : Nat) : Int)), .int .i64 (((ss : Nat) : Int)), .slice sg gs.length sc, .int .i64 (((ls : Nat) : Int)), .slice lg gl.length lc] 73) :: .obj m (mapO (os.map Ob.en) last) :: .row 96 2 (.slice sg gs.length sc) gs.length (gapC gs) :: .row 96 2 (.slice lg gl.length lc) gl.length (gapC gl) :: .row 3 1 (.slice ro rs.length rc) rs.length (intC rs) :: (os.map Ob.row ++ X)) := hM.bring 3 rfl rfl
   refine seq_call hA rfl rfl rfl (enters_func rfl rfl (fun w => by kernel_rfl)) ((hnm ▸ names_any (T := (.row 3 1 (.slice ro rs.length rc) rs.length (intC rs) :: (os.map Ob.row ++ X))) hM)) ?_
   rintro _ w16 ⟨rfl, hM15⟩
   replace hM : Mg w0 w16 (.obj h (.cells #[.map (some m), .int .i64 (((last : Nat) : Int)), .int .i64 (((ss : Nat) : Int)), .slice sg gs.length sc, .int .i64 (((ls : Nat) : Int)), .slice lg gl.length lc] 73) :: .obj m (mapO (os.map Ob.en) last) :: .row 96 2 (.slice sg gs.length sc) gs.length (gapC gs) :: .row 96 2 (.slice lg gl.length lc) gl.length (gapC gl) :: .row 3 1 (.slice ro rs.length rc) rs.length (intC rs) :: (os.map Ob.row ++ X)) := hM15
   refine ⟨_, rfl, ?_⟩
   intro a hA
   refine seq_do (v := .bool false) hA rfl rfl rfl (does_un rfl un_not) ?_
   intro a hA
   refine seq_end ?_
   refine hK14 _ _ ?_
   refine wp_cond_false (hA.ev rfl) ?_
   refine wp_skip ?_
   refine hK12 _ _ ?_
   refine wp_region_lit ?_
   refine seq_do (v := .int .i64 (((i + 1 : Nat) : Int))) hA rfl rfl rfl (does_bin rfl rfl (ar_add ((in_i64 (by omega) (by omega)).trans (by omega)))) ?_
   intro a hA
   refine seq_do hA rfl rfl rfl (does_move rfl) ?_
   intro a hA
   refine seq_end ?_
   replace hM : Mg w0 w16 (.row 3 1 (.slice ro rs.length rc) rs.length (intC rs) :: .obj h (.cells #[.map (some m), .int .i64 (((last : Nat) : Int)), .int .i64 (((ss : Nat) : Int)), .slice sg gs.length sc, .int .i64 (((ls : Nat) : Int)), .slice lg gl.length lc] 73) :: .obj m (mapO (os.map Ob.en) last) :: .row 96 2 (.slice sg gs.length sc) gs.length (gapC gs) :: .row 96 2 (.slice lg gl.length lc) gl.length (gapC gl) :: (os.map Ob.row ++ X)) := hM.bring 4 rfl rfl
   replace hM : Mg w0 w16 (.row 96 2 (.slice lg gl.length lc) gl.length (gapC gl) :: .row 3 1 (.slice ro rs.length rc) rs.length (intC rs) :: .obj h (.cells #[.map (some m), .int .i64 (((last : Nat) : Int)), .int .i64 (((ss : Nat) : Int)), .slice sg gs.length sc, .int .i64 (((ls : Nat) : Int)), .slice lg gl.length lc] 73) :: .obj m (mapO (os.map Ob.en) last) :: .row 96 2 (.slice sg gs.length sc) gs.length (gapC gs) :: (os.map Ob.row ++ X)) := hM.bring 4 rfl rfl
   replace hM : Mg w0 w16 (.row 96 2 (.slice sg gs.length sc) gs.length (gapC gs) :: .row 96 2 (.slice lg gl.length lc) gl.length (gapC gl) :: .row 3 1 (.slice ro rs.length rc) rs.length (intC rs) :: .obj h (.cells #[.map (some m), .int .i64 (((last : Nat) : Int)), .int .i64 (((ss : Nat) : Int)), .slice sg gs.length sc, .int .i64 (((ls : Nat) : Int)), .slice lg gl.length lc] 73) :: .obj m (mapO (os.map Ob.en) last) :: (os.map Ob.row ++ X)) := hM.bring 4 rfl rfl
   replace hM : Mg w0 w16 (.obj m (mapO (os.map Ob.en) last) :: .row 96 2 (.slice sg gs.length sc) gs.length (gapC gs) :: .row 96 2 (.slice lg gl.length lc) gl.length (gapC gl) :: .row 3 1 (.slice ro rs.length rc) rs.length (intC rs) :: .obj h (.cells #[.map (some m), .int .i64 (((last : Nat) : Int)), .int .i64 (((ss : Nat) : Int)), .slice sg gs.length sc, .int .i64 (((ls : Nat) : Int)), .slice lg gl.length lc] 73) :: (os.map Ob.row ++ X)) := hM.bring 4 rfl rfl
   replace hM : Mg w0 w16 (.obj h (.cells #[.map (some m), .int .i64 (((last : Nat) : Int)), .int .i64 (((ss : Nat) : Int)), .slice sg gs.length sc, .int .i64 (((ls : Nat) : Int)), .slice lg gl.length lc] 73) :: .obj m (mapO (os.map Ob.en) last) :: .row 96 2 (.slice sg gs.length sc) gs.length (gapC gs) :: .row 96 2 (.slice lg gl.length lc) gl.length (gapC gl) :: .row 3 1 (.slice ro rs.length rc) rs.length (intC rs) :: (os.map Ob.row ++ X)) := hM.bring 4 rfl rfl
   refine hK7 _ _ _ (by omega) ⟨i + 1, rfl, by omega, hA.keep _ ⟨rfl, rfl, rfl, rfl, rfl, rfl, rfl, trivial⟩, hM⟩
 · have hb10' := of_decide_eq_false hb10
   refine seq_do (v := .bool false) hA rfl rfl rfl (does_bin rfl rfl (fun w => (bin_lss w).trans (by rw [hb10]))) ?_
   intro a hA
   refine seq_end ?_
   refine hK9 _ _ ?_
   refine wp_seq_k (fun K17 hK17 => ?_)
   refine wp_cond_false (hA.ev rfl) ?_
   refine wp_exit ?_
   refine hK4 _ _ ?_
   refine wp_seq_k (fun K18 hK18 => ?_)
   refine wp_region_lit ?_
   refine seq_do hA rfl rfl rfl (does_move rfl) ?_
   intro a hA
   refine seq_do hA rfl rfl rfl (does_move rfl) ?_
   intro a hA
   refine seq_do hA rfl rfl rfl (does_move rfl) ?_
   intro a hA
   replace hM : Mg w0 w6 (.row 3 1 (.slice ro rs.length rc) rs.length (intC rs) :: .obj h (.cells #[.map (some m), .int .i64 (((last : Nat) : Int)), .int .i64 (((ss : Nat) : Int)), .slice sg gs.length sc, .int .i64 (((ls : Nat) : Int)), .slice lg gl.length lc] 73) :: .obj m (mapO (os.map Ob.en) last) :: .row 96 2 (.slice sg gs.length sc) gs.length (gapC gs) :: .row 96 2 (.slice lg gl.length lc) gl.length (gapC gl) :: (os.map Ob.row ++ X)) := hM.bring 4 rfl rfl
   replace hM : Mg w0 w6 (.row 96 2 (.slice lg gl.length lc) gl.length (gapC gl) :: .row 3 1 (.slice ro rs.length rc) rs.length (intC rs) :: .obj h (.cells #[.map (some m), .int .i64 (((last : Nat) : Int)), .int .i64 (((ss : Nat) : Int)), .slice sg gs.length sc, .int .i64 (((ls : Nat) : Int)), .slice lg gl.length lc] 73) :: .obj m (mapO (os.map Ob.en) last) :: .row 96 2 (.slice sg gs.length sc) gs.length (gapC gs) :: (os.map Ob.row ++ X)) := hM.bring 4 rfl rfl
   replace hM : Mg w0 w6 (.row 96 2 (.slice sg gs.length sc) gs.length (gapC gs) :: .row 96 2 (.slice lg gl.length lc) gl.length (gapC gl) :: .row 3 1 (.slice ro rs.length rc) rs.length (intC rs) :: .obj h (.cells #[.map (some m), .int .i64 (((last : Nat) : Int)), .int .i64 (((ss : Nat) : Int)), .slice sg gs.length sc, .int .i64 (((ls : Nat) : Int)), .slice lg gl.length lc] 73) :: .obj m (mapO (os.map Ob.en) last) :: (os.map Ob.row ++ X)) := hM.bring 4 rfl rfl
   replace hM : Mg w0 w6 (.obj m (mapO (os.map Ob.en) last) :: .row 96 2 (.slice sg gs.length sc) gs.length (gapC gs) :: .row 96 2 (.slice lg gl.length lc) gl.length (gapC gl) :: .row 3 1 (.slice ro rs.length rc) rs.length (intC rs) :: .obj h (.cells #[.map (some m), .int .i64 (((last : Nat) : Int)), .int .i64 (((ss : Nat) : Int)), .slice sg gs.length sc, .int .i64 (((ls : Nat) : Int)), .slice lg gl.length lc] 73) :: (os.map Ob.row ++ X)) := hM.bring 4 rfl rfl
   replace hM : Mg w0 w6 (.obj h (.cells #[.map (some m), .int .i64 (((last : Nat) : Int)), .int .i64 (((ss : Nat) : Int)), .slice sg gs.length sc, .int .i64 (((ls : Nat) : Int)), .slice lg gl.length lc] 73) :: .obj m (mapO (os.map Ob.en) last) :: .row 96 2 (.slice sg gs.length sc) gs.length (gapC gs) :: .row 96 2 (.slice lg gl.length lc) gl.length (gapC gl) :: .row 3 1 (.slice ro rs.length rc) rs.length (intC rs) :: (os.map Ob.row ++ X)) := hM.bring 4 rfl rfl
   refine seq_call hA rfl rfl rfl (enters_func rfl rfl (fun w => by kernel_rfl)) (reached_any hnT hol hcl hrf hrl hrs hM) ?_
   rintro _ w20 ⟨fm, ws, rfl, ⟨hV, hW⟩, hM19⟩
   have hx1 := hx.sub (List.filter_sublist (p := fun o => decide (((o.x : Nat) : Int) ∈ ws)) (l := os))
   have hol1 : (stay ws os).length ≤ 1000000 := Nat.le_trans (List.length_filter_le _ _) hol
   have hcl1 : ∀ o ∈ stay ws os, o.ws.length ≤ 1000000 := fun o ho => hcl o (List.mem_filter.1 ho).1
   have hsw1 : sumW (stay ws os) ≤ 1000000000 := Nat.le_trans (sumW_sub List.filter_sublist) hsw
   have hx2 := hx1.mvD 0
   have hol2 : (mvD 0 (stay ws os)).length ≤ 1000000 := by rw [mvD_len]; exact hol1
   have hcl2 := mvD_cl hcl1 0
   have hpp2 : ∀ o ∈ mvD 0 (stay ws os), o.p ≤ 65536 := fun o ho => (mvD_p _ _ o ho).elim (fun k => by have := sumS_sub (List.filter_sublist (p := fun o => decide (((o.x : Nat) : Int) ∈ ws)) (l := os)); change o.p ≤ 0 + sumS (stay ws os) at k; change sumS (stay ws os) ≤ _ at this; omega) (fun k => hpp o (List.mem_filter.1 k).1)
   replace hM : Mg w0 w20 (.obj h (.cells #[.map (some m), .int .i64 (((last : Nat) : Int)), .int .i64 (((ss : Nat) : Int)), .slice sg gs.length sc, .int .i64 (((ls : Nat) : Int)), .slice lg gl.length lc] 73) :: .obj m (mapO (os.map Ob.en) last) :: .row 96 2 (.slice sg gs.length sc) gs.length (gapC gs) :: .row 96 2 (.slice lg gl.length lc) gl.length (gapC gl) :: .row 3 1 (.slice ro rs.length rc) rs.length (intC rs) :: .obj fm (mapO (mkE 0 ws) ws.length) :: (os.map Ob.row ++ X)) := hM19
   refine ⟨_, rfl, ?_⟩
   intro a hA
   replace hM : Mg w0 w20 (.obj fm (mapO (mkE 0 ws) ws.length) :: .obj h (.cells #[.map (some m), .int .i64 (((last : Nat) : Int)), .int .i64 (((ss : Nat) : Int)), .slice sg gs.length sc, .int .i64 (((ls : Nat) : Int)), .slice lg gl.length lc] 73) :: .obj m (mapO (os.map Ob.en) last) :: .row 96 2 (.slice sg gs.length sc) gs.length (gapC gs) :: .row 96 2 (.slice lg gl.length lc) gl.length (gapC gl) :: .row 3 1 (.slice ro rs.length rc) rs.length (intC rs) :: (os.map Ob.row ++ X)) := hM.bring 5 rfl rfl
   replace hM : Mg w0 w20 (.row 96 2 (.slice lg gl.length lc) gl.length (gapC gl) :: .obj fm (mapO (mkE 0 ws) ws.length) :: .obj h (.cells #[.map (some m), .int .i64 (((last : Nat) : Int)), .int .i64 (((ss : Nat) : Int)), .slice sg gs.length sc, .int .i64 (((ls : Nat) : Int)), .slice lg gl.length lc] 73) :: .obj m (mapO (os.map Ob.en) last) :: .row 96 2 (.slice sg gs.length sc) gs.length (gapC gs) :: .row 3 1 (.slice ro rs.length rc) rs.length (intC rs) :: (os.map Ob.row ++ X)) := hM.bring 4 rfl rfl
   replace hM : Mg w0 w20 (.row 96 2 (.slice sg gs.length sc) gs.length (gapC gs) :: .row 96 2 (.slice lg gl.length lc) gl.length (gapC gl) :: .obj fm (mapO (mkE 0 ws) ws.length) :: .obj h (.cells #[.map (some m), .int .i64 (((last : Nat) : Int)), .int .i64 (((ss : Nat) : Int)), .slice sg gs.length sc, .int .i64 (((ls : Nat) : Int)), .slice lg gl.length lc] 73) :: .obj m (mapO (os.map Ob.en) last) :: .row 3 1 (.slice ro rs.length rc) rs.length (intC rs) :: (os.map Ob.row ++ X)) := hM.bring 4 rfl rfl
   replace hM : Mg w0 w20 (.obj m (mapO (os.map Ob.en) last) :: .row 96 2 (.slice sg gs.length sc) gs.length (gapC gs) :: .row 96 2 (.slice lg gl.length lc) gl.length (gapC gl) :: .obj fm (mapO (mkE 0 ws) ws.length) :: .obj h (.cells #[.map (some m), .int .i64 (((last : Nat) : Int)), .int .i64 (((ss : Nat) : Int)), .slice sg gs.length sc, .int .i64 (((ls : Nat) : Int)), .slice lg gl.length lc] 73) :: .row 3 1 (.slice ro rs.length rc) rs.length (intC rs) :: (os.map Ob.row ++ X)) := hM.bring 4 rfl rfl
   replace hM : Mg w0 w20 (.obj h (.cells #[.map (some m), .int .i64 (((last : Nat) : Int)), .int .i64 (((ss : Nat) : Int)), .slice sg gs.length sc, .int .i64 (((ls : Nat) : Int)), .slice lg gl.length lc] 73) :: .obj m (mapO (os.map Ob.en) last) :: .row 96 2 (.slice sg gs.length sc) gs.length (gapC gs) :: .row 96 2 (.slice lg gl.length lc) gl.length (gapC gl) :: .obj fm (mapO (mkE 0 ws) ws.length) :: .row 3 1 (.slice ro rs.length rc) rs.length (intC rs) :: (os.map Ob.row ++ X)) := hM.bring 4 rfl rfl
   refine seq_call hA rfl rfl rfl (enters_func rfl rfl (fun w => by kernel_rfl)) (sweep_any (T := (.row 3 1 (.slice ro rs.length rc) rs.length (intC rs) :: (os.map Ob.row ++ X))) hx hol hcl hsw hM) ?_
   rintro _ w22 ⟨rfl, hM21⟩
   replace hM : Mg w0 w22 (.obj h (.cells #[.map (some m), .int .i64 (((last : Nat) : Int)), .int .i64 (((ss : Nat) : Int)), .slice sg gs.length sc, .int .i64 (((ls : Nat) : Int)), .slice lg gl.length lc] 73) :: .obj m (mapO ((stay ws os).map Ob.en) last) :: .row 96 2 (.slice sg gs.length sc) gs.length (gapC gs) :: .row 96 2 (.slice lg gl.length lc) gl.length (gapC gl) :: .obj fm (mapO (mkE 0 ws) ws.length) :: .row 3 1 (.slice ro rs.length rc) rs.length (intC rs) :: (os.map Ob.row ++ X)) := hM21
   refine ⟨_, rfl, ?_⟩
   intro a hA
   refine seq_do hA rfl rfl rfl (does_assign rfl) ?_
   intro a hA
   refine seq_end ?_
   refine hK18 _ _ ?_
   refine wp_seq_k (fun K23 hK23 => ?_)
   refine wp_region_lit ?_
   refine seq_do hA rfl rfl rfl (does_move rfl) ?_
   intro a hA
   replace hM : Mg w0 w22 (.row 96 2 (.slice lg gl.length lc) gl.length (gapC gl) :: .obj h (.cells #[.map (some m), .int .i64 (((last : Nat) : Int)), .int .i64 (((ss : Nat) : Int)), .slice sg gs.length sc, .int .i64 (((ls : Nat) : Int)), .slice lg gl.length lc] 73) :: .obj m (mapO ((stay ws os).map Ob.en) last) :: .row 96 2 (.slice sg gs.length sc) gs.length (gapC gs) :: .obj fm (mapO (mkE 0 ws) ws.length) :: .row 3 1 (.slice ro rs.length rc) rs.length (intC rs) :: (os.map Ob.row ++ X)) := hM.bring 3 rfl rfl
   replace hM : Mg w0 w22 (.row 96 2 (.slice sg gs.length sc) gs.length (gapC gs) :: .row 96 2 (.slice lg gl.length lc) gl.length (gapC gl) :: .obj h (.cells #[.map (some m), .int .i64 (((last : Nat) : Int)), .int .i64 (((ss : Nat) : Int)), .slice sg gs.length sc, .int .i64 (((ls : Nat) : Int)), .slice lg gl.length lc] 73) :: .obj m (mapO ((stay ws os).map Ob.en) last) :: .obj fm (mapO (mkE 0 ws) ws.length) :: .row 3 1 (.slice ro rs.length rc) rs.length (intC rs) :: (os.map Ob.row ++ X)) := hM.bring 3 rfl rfl
   replace hM : Mg w0 w22 (.obj m (mapO ((stay ws os).map Ob.en) last) :: .row 96 2 (.slice sg gs.length sc) gs.length (gapC gs) :: .row 96 2 (.slice lg gl.length lc) gl.length (gapC gl) :: .obj h (.cells #[.map (some m), .int .i64 (((last : Nat) : Int)), .int .i64 (((ss : Nat) : Int)), .slice sg gs.length sc, .int .i64 (((ls : Nat) : Int)), .slice lg gl.length lc] 73) :: .obj fm (mapO (mkE 0 ws) ws.length) :: .row 3 1 (.slice ro rs.length rc) rs.length (intC rs) :: (os.map Ob.row ++ X)) := hM.bring 3 rfl rfl
   replace hM : Mg w0 w22 (.obj h (.cells #[.map (some m), .int .i64 (((last : Nat) : Int)), .int .i64 (((ss : Nat) : Int)), .slice sg gs.length sc, .int .i64 (((ls : Nat) : Int)), .slice lg gl.length lc] 73) :: .obj m (mapO ((stay ws os).map Ob.en) last) :: .row 96 2 (.slice sg gs.length sc) gs.length (gapC gs) :: .row 96 2 (.slice lg gl.length lc) gl.length (gapC gl) :: .obj fm (mapO (mkE 0 ws) ws.length) :: .row 3 1 (.slice ro rs.length rc) rs.length (intC rs) :: (os.map Ob.row ++ X)) := hM.bring 3 rfl rfl
   refine seq_call hA rfl rfl rfl (enters_func rfl rfl (fun w => by kernel_rfl)) (moveDown_any (os := (stay ws os)) (T := (.obj fm (mapO (mkE 0 ws) ws.length) :: .row 3 1 (.slice ro rs.length rc) rs.length (intC rs) :: (os.map Ob.row ++ X))) hx1 hol1 hcl1 hsw1 (noBld_cons (by simp) (noBld_cons (by simp) hnT)) hM) ?_
   rintro _ w25 ⟨rfl, hM24⟩
   replace hM : Mg w0 w25 (.obj h (.cells #[.map (some m), .int .i64 (((last : Nat) : Int)), .int .i64 (((ss : Nat) : Int)), .slice sg gs.length sc, .int .i64 (((ls : Nat) : Int)), .slice lg gl.length lc] 73) :: .obj m (mapO ((mvD 0 (stay ws os)).map Ob.en) last) :: .row 96 2 (.slice sg gs.length sc) gs.length (gapC gs) :: .row 96 2 (.slice lg gl.length lc) gl.length (gapC gl) :: .obj fm (mapO (mkE 0 ws) ws.length) :: .row 3 1 (.slice ro rs.length rc) rs.length (intC rs) :: (os.map Ob.row ++ X)) := hM24
   refine ⟨_, rfl, ?_⟩
   intro a hA
   refine seq_end ?_
   refine hK23 _ _ ?_
   refine wp_seq_k (fun K26 hK26 => ?_)
   refine wp_draw (S := fun w1 => Mg w0 w1 ([])) (by kernel_rfl) ?_
   replace hM := hM.drew
   refine any_tk hA 0 rfl rfl rfl rfl hP (hM.sub (.cons _ (.cons _ (.cons _ (.cons _ (.cons _ (.cons _ (List.nil_sublist _)))))))) (fun w1 hM => does_move rfl) ?_
   intro a hA
   refine any_tk hA 1 rfl rfl rfl rfl hP (hM.sub (.cons _ (.cons _ (.cons _ (.cons _ (.cons _ (.cons _ (List.nil_sublist _)))))))) (fun w1 hM => does_nilq rfl) ?_
   intro a hA
   refine any_tk (v := .pointer (some ⟨h, 2, none⟩)) hA 2 rfl rfl rfl rfl hP (hM.sub (.cons _ (.cons _ (.cons _ (.cons _ (.cons _ (.cons _ (List.nil_sublist _)))))))) (fun w1 hM => does_field HbI_fld_73_2 rfl rfl) ?_
   intro a hA
   refine any_tk hA 3 rfl rfl rfl rfl hP (hM.sub (.cons _ (.cons _ (.cons _ (.cons _ (.cons _ (.cons _ (List.nil_sublist _)))))))) (fun w1 hM => does_move rfl) ?_
   intro a hA
   replace hM : Mg w0 w25.drew (.row 96 2 (.slice lg gl.length lc) gl.length (gapC gl) :: .obj h (.cells #[.map (some m), .int .i64 (((last : Nat) : Int)), .int .i64 (((ss : Nat) : Int)), .slice sg gs.length sc, .int .i64 (((ls : Nat) : Int)), .slice lg gl.length lc] 73) :: .obj m (mapO ((mvD 0 (stay ws os)).map Ob.en) last) :: .row 96 2 (.slice sg gs.length sc) gs.length (gapC gs) :: .obj fm (mapO (mkE 0 ws) ws.length) :: .row 3 1 (.slice ro rs.length rc) rs.length (intC rs) :: (os.map Ob.row ++ X)) := hM.bring 3 rfl rfl
   replace hM : Mg w0 w25.drew (.row 96 2 (.slice sg gs.length sc) gs.length (gapC gs) :: .row 96 2 (.slice lg gl.length lc) gl.length (gapC gl) :: .obj h (.cells #[.map (some m), .int .i64 (((last : Nat) : Int)), .int .i64 (((ss : Nat) : Int)), .slice sg gs.length sc, .int .i64 (((ls : Nat) : Int)), .slice lg gl.length lc] 73) :: .obj m (mapO ((mvD 0 (stay ws os)).map Ob.en) last) :: .obj fm (mapO (mkE 0 ws) ws.length) :: .row 3 1 (.slice ro rs.length rc) rs.length (intC rs) :: (os.map Ob.row ++ X)) := hM.bring 3 rfl rfl
   replace hM : Mg w0 w25.drew (.obj m (mapO ((mvD 0 (stay ws os)).map Ob.en) last) :: .row 96 2 (.slice sg gs.length sc) gs.length (gapC gs) :: .row 96 2 (.slice lg gl.length lc) gl.length (gapC gl) :: .obj h (.cells #[.map (some m), .int .i64 (((last : Nat) : Int)), .int .i64 (((ss : Nat) : Int)), .slice sg gs.length sc, .int .i64 (((ls : Nat) : Int)), .slice lg gl.length lc] 73) :: .obj fm (mapO (mkE 0 ws) ws.length) :: .row 3 1 (.slice ro rs.length rc) rs.length (intC rs) :: (os.map Ob.row ++ X)) := hM.bring 3 rfl rfl
   replace hM : Mg w0 w25.drew (.obj h (.cells #[.map (some m), .int .i64 (((last : Nat) : Int)), .int .i64 (((ss : Nat) : Int)), .slice sg gs.length sc, .int .i64 (((ls : Nat) : Int)), .slice lg gl.length lc] 73) :: .obj m (mapO ((mvD 0 (stay ws os)).map Ob.en) last) :: .row 96 2 (.slice sg gs.length sc) gs.length (gapC gs) :: .row 96 2 (.slice lg gl.length lc) gl.length (gapC gl) :: .obj fm (mapO (mkE 0 ws) ws.length) :: .row 3 1 (.slice ro rs.length rc) rs.length (intC rs) :: (os.map Ob.row ++ X)) := hM.bring 3 rfl rfl
   refine any_one (by kernel_rfl) (op_call hA 4 rfl rfl rfl rfl (enters_func rfl rfl (fun w => by kernel_rfl)) (standing_false (os := (mvD 0 (stay ws os))) (T := (.obj fm (mapO (mkE 0 ws) ws.length) :: .row 3 1 (.slice ro rs.length rc) rs.length (intC rs) :: (os.map Ob.row ++ X))) hx2 hol2 hcl2 hpp2 (noBld_cons (by simp) (noBld_cons (by simp) hnT)) hM) ?_)
   rintro _ w28 ⟨sozs, cazs, zs, rfl, ⟨hpzs, hbzs⟩, hM27⟩
   have hlzs : zs.length ≤ 1000000 := by rw [hpzs.length_eq]; exact Nat.le_trans (List.length_filter_le _ _) hol2
   have hizs : ∀ o ∈ zs, o ∈ (mvD 0 (stay ws os)) := fun o ho => (List.mem_filter.1 (hpzs.mem_iff.1 ho)).1
   replace hM : Mg w0 w28 (.obj h (.cells #[.map (some m), .int .i64 (((last : Nat) : Int)), .int .i64 (((ss : Nat) : Int)), .slice sg gs.length sc, .int .i64 (((ls : Nat) : Int)), .slice lg gl.length lc] 73) :: .obj m (mapO ((mvD 0 (stay ws os)).map Ob.en) last) :: .row 96 2 (.slice sg gs.length sc) gs.length (gapC gs) :: .row 96 2 (.slice lg gl.length lc) gl.length (gapC gl) :: .row 79 2 (.slice sozs zs.length cazs) zs.length (obC zs) :: .obj fm (mapO (mkE 0 ws) ws.length) :: .row 3 1 (.slice ro rs.length rc) rs.length (intC rs) :: (os.map Ob.row ++ X)) := hM27
   refine ⟨_, rfl, (hM.sub (.cons _ (.cons _ (.cons _ (.cons _ (.cons _ (.cons _ (.cons _ (List.nil_sublist _))))))))), ?_⟩
   intro a hA
   replace hM : Mg w0 w28 (.row 79 2 (.slice sozs zs.length cazs) zs.length (obC zs) :: .obj h (.cells #[.map (some m), .int .i64 (((last : Nat) : Int)), .int .i64 (((ss : Nat) : Int)), .slice sg gs.length sc, .int .i64 (((ls : Nat) : Int)), .slice lg gl.length lc] 73) :: .obj m (mapO ((mvD 0 (stay ws os)).map Ob.en) last) :: .row 96 2 (.slice sg gs.length sc) gs.length (gapC gs) :: .row 96 2 (.slice lg gl.length lc) gl.length (gapC gl) :: .obj fm (mapO (mkE 0 ws) ws.length) :: .row 3 1 (.slice ro rs.length rc) rs.length (intC rs) :: (os.map Ob.row ++ X)) := hM.bring 4 rfl rfl
   replace hM : Mg w0 w28 (.row 96 2 (.slice lg gl.length lc) gl.length (gapC gl) :: .row 79 2 (.slice sozs zs.length cazs) zs.length (obC zs) :: .obj h (.cells #[.map (some m), .int .i64 (((last : Nat) : Int)), .int .i64 (((ss : Nat) : Int)), .slice sg gs.length sc, .int .i64 (((ls : Nat) : Int)), .slice lg gl.length lc] 73) :: .obj m (mapO ((mvD 0 (stay ws os)).map Ob.en) last) :: .row 96 2 (.slice sg gs.length sc) gs.length (gapC gs) :: .obj fm (mapO (mkE 0 ws) ws.length) :: .row 3 1 (.slice ro rs.length rc) rs.length (intC rs) :: (os.map Ob.row ++ X)) := hM.bring 4 rfl rfl
   replace hM : Mg w0 w28 (.row 96 2 (.slice sg gs.length sc) gs.length (gapC gs) :: .row 96 2 (.slice lg gl.length lc) gl.length (gapC gl) :: .row 79 2 (.slice sozs zs.length cazs) zs.length (obC zs) :: .obj h (.cells #[.map (some m), .int .i64 (((last : Nat) : Int)), .int .i64 (((ss : Nat) : Int)), .slice sg gs.length sc, .int .i64 (((ls : Nat) : Int)), .slice lg gl.length lc] 73) :: .obj m (mapO ((mvD 0 (stay ws os)).map Ob.en) last) :: .obj fm (mapO (mkE 0 ws) ws.length) :: .row 3 1 (.slice ro rs.length rc) rs.length (intC rs) :: (os.map Ob.row ++ X)) := hM.bring 4 rfl rfl
   replace hM : Mg w0 w28 (.obj m (mapO ((mvD 0 (stay ws os)).map Ob.en) last) :: .row 96 2 (.slice sg gs.length sc) gs.length (gapC gs) :: .row 96 2 (.slice lg gl.length lc) gl.length (gapC gl) :: .row 79 2 (.slice sozs zs.length cazs) zs.length (obC zs) :: .obj h (.cells #[.map (some m), .int .i64 (((last : Nat) : Int)), .int .i64 (((ss : Nat) : Int)), .slice sg gs.length sc, .int .i64 (((ls : Nat) : Int)), .slice lg gl.length lc] 73) :: .obj fm (mapO (mkE 0 ws) ws.length) :: .row 3 1 (.slice ro rs.length rc) rs.length (intC rs) :: (os.map Ob.row ++ X)) := hM.bring 4 rfl rfl
   replace hM : Mg w0 w28 (.obj h (.cells #[.map (some m), .int .i64 (((last : Nat) : Int)), .int .i64 (((ss : Nat) : Int)), .slice sg gs.length sc, .int .i64 (((ls : Nat) : Int)), .slice lg gl.length lc] 73) :: .obj m (mapO ((mvD 0 (stay ws os)).map Ob.en) last) :: .row 96 2 (.slice sg gs.length sc) gs.length (gapC gs) :: .row 96 2 (.slice lg gl.length lc) gl.length (gapC gl) :: .row 79 2 (.slice sozs zs.length cazs) zs.length (obC zs) :: .obj fm (mapO (mkE 0 ws) ws.length) :: .row 3 1 (.slice ro rs.length rc) rs.length (intC rs) :: (os.map Ob.row ++ X)) := hM.bring 4 rfl rfl
   refine any_one (by kernel_rfl) (op_call hA 5 rfl rfl rfl rfl (enters_func rfl rfl (fun w => by kernel_rfl)) (layGapsS_any (os := (mvD 0 (stay ws os))) (T := (.obj fm (mapO (mkE 0 ws) ws.length) :: .row 3 1 (.slice ro rs.length rc) rs.length (intC rs) :: (os.map Ob.row ++ X))) hlzs hss (fun o ho => hcl2 o (hizs o ho)) (fun o ho => hpp2 o (hizs o ho)) (noBld_cons (by simp) (noBld_cons (by simp) hnT)) hM) ?_)
   rintro _ w30 ⟨soS, caS, rfl, hM29⟩
   replace hM : Mg w0 w30 (.obj h (.cells #[.map (some m), .int .i64 (((last : Nat) : Int)), .int .i64 (((ss : Nat) : Int)), .slice soS ((freeG ss zs).length) caS, .int .i64 (((ls : Nat) : Int)), .slice lg gl.length lc] 73) :: .obj m (mapO ((mvD 0 (stay ws os)).map Ob.en) last) :: .row 96 2 (.slice soS ((freeG ss zs).length) caS) ((freeG ss zs).length) (gapC (freeG ss zs)) :: .row 96 2 (.slice lg gl.length lc) gl.length (gapC gl) :: .obj fm (mapO (mkE 0 ws) ws.length) :: .row 3 1 (.slice ro rs.length rc) rs.length (intC rs) :: (os.map Ob.row ++ X)) := hM29
   refine ⟨_, rfl, (hM.sub (.cons _ (.cons _ (.cons _ (.cons _ (.cons _ (.cons _ (List.nil_sublist _)))))))), ?_⟩
   intro a hA
   refine any_end (by kernel_rfl) ?_
   refine hK26 _ _ ?_
   refine wp_seq_k (fun K31 hK31 => ?_)
   refine wp_draw (S := fun w1 => Mg w0 w1 ([])) (by kernel_rfl) ?_
   replace hM := hM.drew
   refine any_tk hA 0 rfl rfl rfl rfl hP (hM.sub (.cons _ (.cons _ (.cons _ (.cons _ (.cons _ (.cons _ (List.nil_sublist _)))))))) (fun w1 hM => does_move rfl) ?_
   intro a hA
   refine any_tk hA 1 rfl rfl rfl rfl hP (hM.sub (.cons _ (.cons _ (.cons _ (.cons _ (.cons _ (.cons _ (List.nil_sublist _)))))))) (fun w1 hM => does_nilq rfl) ?_
   intro a hA
   refine any_tk (v := .pointer (some ⟨h, 4, none⟩)) hA 2 rfl rfl rfl rfl hP (hM.sub (.cons _ (.cons _ (.cons _ (.cons _ (.cons _ (.cons _ (List.nil_sublist _)))))))) (fun w1 hM => does_field HbI_fld_73_3 rfl rfl) ?_
   intro a hA
   refine any_tk hA 3 rfl rfl rfl rfl hP (hM.sub (.cons _ (.cons _ (.cons _ (.cons _ (.cons _ (.cons _ (List.nil_sublist _)))))))) (fun w1 hM => does_move rfl) ?_
   intro a hA
   replace hM : Mg w0 w30.drew (.row 96 2 (.slice lg gl.length lc) gl.length (gapC gl) :: .obj h (.cells #[.map (some m), .int .i64 (((last : Nat) : Int)), .int .i64 (((ss : Nat) : Int)), .slice soS ((freeG ss zs).length) caS, .int .i64 (((ls : Nat) : Int)), .slice lg gl.length lc] 73) :: .obj m (mapO ((mvD 0 (stay ws os)).map Ob.en) last) :: .row 96 2 (.slice soS ((freeG ss zs).length) caS) ((freeG ss zs).length) (gapC (freeG ss zs)) :: .obj fm (mapO (mkE 0 ws) ws.length) :: .row 3 1 (.slice ro rs.length rc) rs.length (intC rs) :: (os.map Ob.row ++ X)) := hM.bring 3 rfl rfl
   replace hM : Mg w0 w30.drew (.row 96 2 (.slice soS ((freeG ss zs).length) caS) ((freeG ss zs).length) (gapC (freeG ss zs)) :: .row 96 2 (.slice lg gl.length lc) gl.length (gapC gl) :: .obj h (.cells #[.map (some m), .int .i64 (((last : Nat) : Int)), .int .i64 (((ss : Nat) : Int)), .slice soS ((freeG ss zs).length) caS, .int .i64 (((ls : Nat) : Int)), .slice lg gl.length lc] 73) :: .obj m (mapO ((mvD 0 (stay ws os)).map Ob.en) last) :: .obj fm (mapO (mkE 0 ws) ws.length) :: .row 3 1 (.slice ro rs.length rc) rs.length (intC rs) :: (os.map Ob.row ++ X)) := hM.bring 3 rfl rfl
   replace hM : Mg w0 w30.drew (.obj m (mapO ((mvD 0 (stay ws os)).map Ob.en) last) :: .row 96 2 (.slice soS ((freeG ss zs).length) caS) ((freeG ss zs).length) (gapC (freeG ss zs)) :: .row 96 2 (.slice lg gl.length lc) gl.length (gapC gl) :: .obj h (.cells #[.map (some m), .int .i64 (((last : Nat) : Int)), .int .i64 (((ss : Nat) : Int)), .slice soS ((freeG ss zs).length) caS, .int .i64 (((ls : Nat) : Int)), .slice lg gl.length lc] 73) :: .obj fm (mapO (mkE 0 ws) ws.length) :: .row 3 1 (.slice ro rs.length rc) rs.length (intC rs) :: (os.map Ob.row ++ X)) := hM.bring 3 rfl rfl
   replace hM : Mg w0 w30.drew (.obj h (.cells #[.map (some m), .int .i64 (((last : Nat) : Int)), .int .i64 (((ss : Nat) : Int)), .slice soS ((freeG ss zs).length) caS, .int .i64 (((ls : Nat) : Int)), .slice lg gl.length lc] 73) :: .obj m (mapO ((mvD 0 (stay ws os)).map Ob.en) last) :: .row 96 2 (.slice soS ((freeG ss zs).length) caS) ((freeG ss zs).length) (gapC (freeG ss zs)) :: .row 96 2 (.slice lg gl.length lc) gl.length (gapC gl) :: .obj fm (mapO (mkE 0 ws) ws.length) :: .row 3 1 (.slice ro rs.length rc) rs.length (intC rs) :: (os.map Ob.row ++ X)) := hM.bring 3 rfl rfl
   refine any_one (by kernel_rfl) (op_call hA 4 rfl rfl rfl rfl (enters_func rfl rfl (fun w => by kernel_rfl)) (standing_true (os := (mvD 0 (stay ws os))) (T := (.obj fm (mapO (mkE 0 ws) ws.length) :: .row 3 1 (.slice ro rs.length rc) rs.length (intC rs) :: (os.map Ob.row ++ X))) hx2 hol2 hcl2 hpp2 (noBld_cons (by simp) (noBld_cons (by simp) hnT)) hM) ?_)
   rintro _ w33 ⟨sozl, cazl, zl, rfl, ⟨hpzl, hbzl⟩, hM32⟩
   have hlzl : zl.length ≤ 1000000 := by rw [hpzl.length_eq]; exact Nat.le_trans (List.length_filter_le _ _) hol2
   have hizl : ∀ o ∈ zl, o ∈ (mvD 0 (stay ws os)) := fun o ho => (List.mem_filter.1 (hpzl.mem_iff.1 ho)).1
   replace hM : Mg w0 w33 (.obj h (.cells #[.map (some m), .int .i64 (((last : Nat) : Int)), .int .i64 (((ss : Nat) : Int)), .slice soS ((freeG ss zs).length) caS, .int .i64 (((ls : Nat) : Int)), .slice lg gl.length lc] 73) :: .obj m (mapO ((mvD 0 (stay ws os)).map Ob.en) last) :: .row 96 2 (.slice soS ((freeG ss zs).length) caS) ((freeG ss zs).length) (gapC (freeG ss zs)) :: .row 96 2 (.slice lg gl.length lc) gl.length (gapC gl) :: .row 79 2 (.slice sozl zl.length cazl) zl.length (obC zl) :: .obj fm (mapO (mkE 0 ws) ws.length) :: .row 3 1 (.slice ro rs.length rc) rs.length (intC rs) :: (os.map Ob.row ++ X)) := hM32
   refine ⟨_, rfl, (hM.sub (.cons _ (.cons _ (.cons _ (.cons _ (.cons _ (.cons _ (.cons _ (List.nil_sublist _))))))))), ?_⟩
   intro a hA
   replace hM : Mg w0 w33 (.row 79 2 (.slice sozl zl.length cazl) zl.length (obC zl) :: .obj h (.cells #[.map (some m), .int .i64 (((last : Nat) : Int)), .int .i64 (((ss : Nat) : Int)), .slice soS ((freeG ss zs).length) caS, .int .i64 (((ls : Nat) : Int)), .slice lg gl.length lc] 73) :: .obj m (mapO ((mvD 0 (stay ws os)).map Ob.en) last) :: .row 96 2 (.slice soS ((freeG ss zs).length) caS) ((freeG ss zs).length) (gapC (freeG ss zs)) :: .row 96 2 (.slice lg gl.length lc) gl.length (gapC gl) :: .obj fm (mapO (mkE 0 ws) ws.length) :: .row 3 1 (.slice ro rs.length rc) rs.length (intC rs) :: (os.map Ob.row ++ X)) := hM.bring 4 rfl rfl
   replace hM : Mg w0 w33 (.row 96 2 (.slice lg gl.length lc) gl.length (gapC gl) :: .row 79 2 (.slice sozl zl.length cazl) zl.length (obC zl) :: .obj h (.cells #[.map (some m), .int .i64 (((last : Nat) : Int)), .int .i64 (((ss : Nat) : Int)), .slice soS ((freeG ss zs).length) caS, .int .i64 (((ls : Nat) : Int)), .slice lg gl.length lc] 73) :: .obj m (mapO ((mvD 0 (stay ws os)).map Ob.en) last) :: .row 96 2 (.slice soS ((freeG ss zs).length) caS) ((freeG ss zs).length) (gapC (freeG ss zs)) :: .obj fm (mapO (mkE 0 ws) ws.length) :: .row 3 1 (.slice ro rs.length rc) rs.length (intC rs) :: (os.map Ob.row ++ X)) := hM.bring 4 rfl rfl
   replace hM : Mg w0 w33 (.row 96 2 (.slice soS ((freeG ss zs).length) caS) ((freeG ss zs).length) (gapC (freeG ss zs)) :: .row 96 2 (.slice lg gl.length lc) gl.length (gapC gl) :: .row 79 2 (.slice sozl zl.length cazl) zl.length (obC zl) :: .obj h (.cells #[.map (some m), .int .i64 (((last : Nat) : Int)), .int .i64 (((ss : Nat) : Int)), .slice soS ((freeG ss zs).length) caS, .int .i64 (((ls : Nat) : Int)), .slice lg gl.length lc] 73) :: .obj m (mapO ((mvD 0 (stay ws os)).map Ob.en) last) :: .obj fm (mapO (mkE 0 ws) ws.length) :: .row 3 1 (.slice ro rs.length rc) rs.length (intC rs) :: (os.map Ob.row ++ X)) := hM.bring 4 rfl rfl
   replace hM : Mg w0 w33 (.obj m (mapO ((mvD 0 (stay ws os)).map Ob.en) last) :: .row 96 2 (.slice soS ((freeG ss zs).length) caS) ((freeG ss zs).length) (gapC (freeG ss zs)) :: .row 96 2 (.slice lg gl.length lc) gl.length (gapC gl) :: .row 79 2 (.slice sozl zl.length cazl) zl.length (obC zl) :: .obj h (.cells #[.map (some m), .int .i64 (((last : Nat) : Int)), .int .i64 (((ss : Nat) : Int)), .slice soS ((freeG ss zs).length) caS, .int .i64 (((ls : Nat) : Int)), .slice lg gl.length lc] 73) :: .obj fm (mapO (mkE 0 ws) ws.length) :: .row 3 1 (.slice ro rs.length rc) rs.length (intC rs) :: (os.map Ob.row ++ X)) := hM.bring 4 rfl rfl
   replace hM : Mg w0 w33 (.obj h (.cells #[.map (some m), .int .i64 (((last : Nat) : Int)), .int .i64 (((ss : Nat) : Int)), .slice soS ((freeG ss zs).length) caS, .int .i64 (((ls : Nat) : Int)), .slice lg gl.length lc] 73) :: .obj m (mapO ((mvD 0 (stay ws os)).map Ob.en) last) :: .row 96 2 (.slice soS ((freeG ss zs).length) caS) ((freeG ss zs).length) (gapC (freeG ss zs)) :: .row 96 2 (.slice lg gl.length lc) gl.length (gapC gl) :: .row 79 2 (.slice sozl zl.length cazl) zl.length (obC zl) :: .obj fm (mapO (mkE 0 ws) ws.length) :: .row 3 1 (.slice ro rs.length rc) rs.length (intC rs) :: (os.map Ob.row ++ X)) := hM.bring 4 rfl rfl
   refine any_one (by kernel_rfl) (op_call hA 5 rfl rfl rfl rfl (enters_func rfl rfl (fun w => by kernel_rfl)) (layGapsL_any (os := (mvD 0 (stay ws os))) (T := (.obj fm (mapO (mkE 0 ws) ws.length) :: .row 3 1 (.slice ro rs.length rc) rs.length (intC rs) :: (os.map Ob.row ++ X))) hlzl hls (fun o ho => hcl2 o (hizl o ho)) (fun o ho => hpp2 o (hizl o ho)) (noBld_cons (by simp) (noBld_cons (by simp) hnT)) hM) ?_)
   rintro _ w35 ⟨soL, caL, rfl, hM34⟩
   replace hM : Mg w0 w35 (.obj h (.cells #[.map (some m), .int .i64 (((last : Nat) : Int)), .int .i64 (((ss : Nat) : Int)), .slice soS ((freeG ss zs).length) caS, .int .i64 (((ls : Nat) : Int)), .slice soL ((freeG ls zl).length) caL] 73) :: .obj m (mapO ((mvD 0 (stay ws os)).map Ob.en) last) :: .row 96 2 (.slice soS ((freeG ss zs).length) caS) ((freeG ss zs).length) (gapC (freeG ss zs)) :: .row 96 2 (.slice soL ((freeG ls zl).length) caL) ((freeG ls zl).length) (gapC (freeG ls zl)) :: .obj fm (mapO (mkE 0 ws) ws.length) :: .row 3 1 (.slice ro rs.length rc) rs.length (intC rs) :: (os.map Ob.row ++ X)) := hM34
   refine ⟨_, rfl, (hM.sub (.cons _ (.cons _ (.cons _ (.cons _ (.cons _ (.cons _ (List.nil_sublist _)))))))), ?_⟩
   intro a hA
   refine any_end (by kernel_rfl) ?_
   refine hK31 _ _ ?_
   refine wp_seq_k (fun K36 hK36 => ?_)
   refine wp_region_lit ?_
   refine seq_do hA rfl rfl rfl (does_move rfl) ?_
   intro a hA
   refine seq_do hA rfl rfl rfl (does_assign rfl) ?_
   intro a hA
   refine seq_do hA rfl rfl rfl (does_assign rfl) ?_
   intro a hA
   refine seq_end ?_
   refine hK36 _ _ ?_
   refine wp_ret ?_
   refine hret _ _ ?_
   refine ends (v := .tuple #[.int .i64 (((sumW (went ws os) : Nat) : Int)), .int .i64 0]) hA rfl (.cons (res_tmp rfl) (.cons (res_tmp rfl) .nil)) rfl ?_
   replace hM : Mg w0 w35 (.row 3 1 (.slice ro rs.length rc) rs.length (intC rs) :: .obj h (.cells #[.map (some m), .int .i64 (((last : Nat) : Int)), .int .i64 (((ss : Nat) : Int)), .slice soS ((freeG ss zs).length) caS, .int .i64 (((ls : Nat) : Int)), .slice soL ((freeG ls zl).length) caL] 73) :: .obj m (mapO ((mvD 0 (stay ws os)).map Ob.en) last) :: .row 96 2 (.slice soS ((freeG ss zs).length) caS) ((freeG ss zs).length) (gapC (freeG ss zs)) :: .row 96 2 (.slice soL ((freeG ls zl).length) caL) ((freeG ls zl).length) (gapC (freeG ls zl)) :: .obj fm (mapO (mkE 0 ws) ws.length) :: (os.map Ob.row ++ X)) := hM.bring 5 rfl rfl
   replace hM : Mg w0 w35 (.row 96 2 (.slice soL ((freeG ls zl).length) caL) ((freeG ls zl).length) (gapC (freeG ls zl)) :: .row 3 1 (.slice ro rs.length rc) rs.length (intC rs) :: .obj h (.cells #[.map (some m), .int .i64 (((last : Nat) : Int)), .int .i64 (((ss : Nat) : Int)), .slice soS ((freeG ss zs).length) caS, .int .i64 (((ls : Nat) : Int)), .slice soL ((freeG ls zl).length) caL] 73) :: .obj m (mapO ((mvD 0 (stay ws os)).map Ob.en) last) :: .row 96 2 (.slice soS ((freeG ss zs).length) caS) ((freeG ss zs).length) (gapC (freeG ss zs)) :: .obj fm (mapO (mkE 0 ws) ws.length) :: (os.map Ob.row ++ X)) := hM.bring 4 rfl rfl
   replace hM : Mg w0 w35 (.row 96 2 (.slice soS ((freeG ss zs).length) caS) ((freeG ss zs).length) (gapC (freeG ss zs)) :: .row 96 2 (.slice soL ((freeG ls zl).length) caL) ((freeG ls zl).length) (gapC (freeG ls zl)) :: .row 3 1 (.slice ro rs.length rc) rs.length (intC rs) :: .obj h (.cells #[.map (some m), .int .i64 (((last : Nat) : Int)), .int .i64 (((ss : Nat) : Int)), .slice soS ((freeG ss zs).length) caS, .int .i64 (((ls : Nat) : Int)), .slice soL ((freeG ls zl).length) caL] 73) :: .obj m (mapO ((mvD 0 (stay ws os)).map Ob.en) last) :: .obj fm (mapO (mkE 0 ws) ws.length) :: (os.map Ob.row ++ X)) := hM.bring 4 rfl rfl
   replace hM : Mg w0 w35 (.obj m (mapO ((mvD 0 (stay ws os)).map Ob.en) last) :: .row 96 2 (.slice soS ((freeG ss zs).length) caS) ((freeG ss zs).length) (gapC (freeG ss zs)) :: .row 96 2 (.slice soL ((freeG ls zl).length) caL) ((freeG ls zl).length) (gapC (freeG ls zl)) :: .row 3 1 (.slice ro rs.length rc) rs.length (intC rs) :: .obj h (.cells #[.map (some m), .int .i64 (((last : Nat) : Int)), .int .i64 (((ss : Nat) : Int)), .slice soS ((freeG ss zs).length) caS, .int .i64 (((ls : Nat) : Int)), .slice soL ((freeG ls zl).length) caL] 73) :: .obj fm (mapO (mkE 0 ws) ws.length) :: (os.map Ob.row ++ X)) := hM.bring 4 rfl rfl
   replace hM : Mg w0 w35 (.obj h (.cells #[.map (some m), .int .i64 (((last : Nat) : Int)), .int .i64 (((ss : Nat) : Int)), .slice soS ((freeG ss zs).length) caS, .int .i64 (((ls : Nat) : Int)), .slice soL ((freeG ls zl).length) caL] 73) :: .obj m (mapO ((mvD 0 (stay ws os)).map Ob.en) last) :: .row 96 2 (.slice soS ((freeG ss zs).length) caS) ((freeG ss zs).length) (gapC (freeG ss zs)) :: .row 96 2 (.slice soL ((freeG ls zl).length) caL) ((freeG ls zl).length) (gapC (freeG ls zl)) :: .row 3 1 (.slice ro rs.length rc) rs.length (intC rs) :: .obj fm (mapO (mkE 0 ws) ws.length) :: (os.map Ob.row ++ X)) := hM.bring 4 rfl rfl
   replace hM : Mg w0 w35 (.obj h (.cells #[.map (some m), .int .i64 (((last : Nat) : Int)), .int .i64 (((ss : Nat) : Int)), .slice soS ((freeG ss zs).length) caS, .int .i64 (((ls : Nat) : Int)), .slice soL ((freeG ls zl).length) caL] 73) :: .obj m (mapO ((mvD 0 (stay ws os)).map Ob.en) last) :: .row 96 2 (.slice soS ((freeG ss zs).length) caS) ((freeG ss zs).length) (gapC (freeG ss zs)) :: .row 96 2 (.slice soL ((freeG ls zl).length) caL) ((freeG ls zl).length) (gapC (freeG ls zl)) :: .row 3 1 (.slice ro rs.length rc) rs.length (intC rs) :: (os.map Ob.row ++ X)) := by
     have h9 := hM.sub (.cons_cons _ (.cons_cons _ (.cons_cons _ (.cons_cons _ (.cons_cons _ (.cons _ (.refl _)))))))
     exact h9
   exact ⟨ws, zs, zl, _, _, _, _, rfl, ⟨hV, hW, hpzs, hbzs, hpzl, hbzl⟩, hM⟩
end Go.Proofs.Ytcigofjajphmjaa
