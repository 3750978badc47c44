/- Walks of what is free, and of what is named. -/
import Derived.Test.YtcigofjajphmjaaHbC
import Derived.Test.YtcigofjajphmjaaHc
namespace Go.Proofs.Ytcigofjajphmjaa
open Go.RowKit
set_option linter.unusedVariables false
set_option linter.unusedSimpArgs false
set_option maxRecDepth 100000
theorem HbE_is1_3 : Is1 Try.prog 3 := ⟨⟨_, Try.underlying3, rfl⟩, by kernel_rfl⟩
theorem HbE_is1_67 : Is1 Try.prog 67 := ⟨⟨_, Try.underlying67, rfl⟩, by kernel_rfl⟩
theorem HbE_is1_68 : Is1 Try.prog 68 := ⟨⟨_, Try.underlying68, rfl⟩, by kernel_rfl⟩
theorem HbE_fld_70_1 : FieldAt Try.prog 70 1 1 := ⟨_, _, Try.underlying70, rfl, rfl, by kernel_rfl⟩
theorem HbE_fld_73_0 : FieldAt Try.prog 73 0 0 := ⟨_, _, Try.underlying73, rfl, rfl, by kernel_rfl⟩
theorem HbE_fld_73_2 : FieldAt Try.prog 73 2 2 := ⟨_, _, Try.underlying73, rfl, rfl, by kernel_rfl⟩
theorem HbE_fld_73_3 : FieldAt Try.prog 73 3 4 := ⟨_, _, Try.underlying73, rfl, rfl, by kernel_rfl⟩
theorem HbE_fld_96_1 : FieldAt Try.prog 96 1 1 := ⟨_, _, Try.underlying96, rfl, rfl, by kernel_rfl⟩
theorem HbE_isS_79 : IsS Try.prog 79 2 := ⟨⟨_, Try.underlying79⟩, by kernel_rfl⟩
theorem HbE_isS_96 : IsS Try.prog 96 2 := ⟨⟨_, Try.underlying96⟩, by kernel_rfl⟩
theorem freeS_any {w0 w : World} {h m last ss ls sc lc : Nat} {sg lg : Option Addr} {gs gl : List (Nat × Nat)} {os : List Ob} {T : List Ck} (hgl : gs.length ≤ 1000000) (hsm : sumG gs ≤ 1000000000) (hM0 : Mg w0 w (.obj h (.cells #[.map (some m), .int .i64 (((last : Nat) : Int)), .int .i64 (((ss : Nat) : Int)), .slice sg gs.length sc, .int .i64 (((ls : Nat) : Int)), .slice lg gl.length lc] 73) :: .obj m (mapO (os.map Ob.en) last) :: .row 96 2 (.slice sg gs.length sc) gs.length (gapC gs) :: .row 96 2 (.slice lg gl.length lc) gl.length (gapC gl) :: T)) : Calls Try.prog 42 #[.pointer (some ⟨h, 2, none⟩)] w fun e w' => e = .returned (.int .i64 ((sumG gs : Nat) : Int)) ∧ Mg w0 w' (.obj h (.cells #[.map (some m), .int .i64 (((last : Nat) : Int)), .int .i64 (((ss : Nat) : Int)), .slice sg gs.length sc, .int .i64 (((ls : Nat) : Int)), .slice lg gl.length lc] 73) :: .obj m (mapO (os.map Ob.en) last) :: .row 96 2 (.slice sg gs.length sc) gs.length (gapC gs) :: .row 96 2 (.slice lg gl.length lc) gl.length (gapC gl) :: T) := by
 have hM : Mg w0 w (.obj h (.cells #[.map (some m), .int .i64 (((last : Nat) : Int)), .int .i64 (((ss : Nat) : Int)), .slice sg gs.length sc, .int .i64 (((ls : Nat) : Int)), .slice lg gl.length lc] 73) :: .obj m (mapO (os.map Ob.en) last) :: .row 96 2 (.slice sg gs.length sc) gs.length (gapC gs) :: .row 96 2 (.slice lg gl.length lc) gl.length (gapC gl) :: T) := hM0
 refine walk_of (l := [(0, .pointer (some ⟨h, 2, none⟩))]) Try.func42 rfl Try.ntmps42 rfl rfl ?_
 intro Q hret hnorm hP a hA
 refine wp_seq_k (fun K1 hK1 => ?_)
 refine wp_region_lit ?_
 refine seq_do hA rfl rfl rfl (does_assign rfl) ?_
 intro a hA
 refine seq_end ?_
 refine hK1 _ _ ?_
 refine wp_seq_k (fun K2 hK2 => ?_)
 refine wp_region_lit ?_
 refine seq_do hA rfl rfl rfl (does_assign rfl) ?_
 intro a hA
 refine seq_end ?_
 refine hK2 _ _ ?_
 refine wp_seq_k (fun K3 hK3 => ?_)
 refine wp_seq_k (fun K4 hK4 => ?_)
 refine wp_region_lit ?_
 refine seq_do hA rfl rfl rfl (does_move rfl) ?_
 intro a hA
 refine seq_do hA rfl rfl rfl (does_nilq rfl) ?_
 intro a hA
 refine seq_do (v := .pointer (some ⟨h, 3, none⟩)) hA rfl rfl rfl (does_field HbE_fld_70_1 rfl rfl) ?_
 intro a hA
 refine seq_do hA rfl rfl rfl (m_load1 hM HbE_is1_68 rfl 0 rfl rfl) ?_
 intro a hA
 refine seq_do (v := .int .i64 (((gs.length : Nat) : Int))) hA rfl rfl rfl (does_len Try.underlying68 rfl) ?_
 intro a hA
 refine seq_do hA rfl rfl rfl (does_move rfl) ?_
 intro a hA
 refine seq_end ?_
 refine hK4 _ _ ?_
 refine wp_block ?_
 refine wp_loop_n (fun m_ a w1 => ∃ (i : Nat) (q : Nat), m_ = 1 + (gs.length - i) ∧ (i ≤ gs.length ∧ q = sumG (gs.take i)) ∧ Sl a 21 [(0, .pointer (some ⟨h, 2, none⟩)), (2, .int .i64 0), (3, .int .i64 (((q : Nat) : Int))), (6, .pointer (some ⟨h, 2, none⟩)), (7, .pointer (some ⟨h, 2, none⟩)), (8, .pointer (some ⟨h, 3, none⟩)), (9, .slice sg gs.length sc), (10, .int .i64 (((gs.length : Nat) : Int))), (11, .int .i64 (((i : Nat) : Int)))] ∧ Mg w0 w1 (.obj h (.cells #[.map (some m), .int .i64 (((last : Nat) : Int)), .int .i64 (((ss : Nat) : Int)), .slice sg gs.length sc, .int .i64 (((ls : Nat) : Int)), .slice lg gl.length lc] 73) :: .obj m (mapO (os.map Ob.en) last) :: .row 96 2 (.slice sg gs.length sc) gs.length (gapC gs) :: .row 96 2 (.slice lg gl.length lc) gl.length (gapC gl) :: T)) _ ⟨0, 0, rfl, ⟨Nat.zero_le _, rfl⟩, hA.keep _ ⟨rfl, rfl, rfl, rfl, rfl, rfl, rfl, rfl, rfl, trivial⟩, hM⟩ ?_
 clear hM hA
 rintro m_ a w5 ⟨i, q, rfl, hinv7, hA, hM⟩ K6 hK6
 obtain ⟨hi0, hq⟩ := hinv7
 refine wp_seq_k (fun K8 hK8 => ?_)
 refine wp_region_lit ?_
 rcases Bool.eq_false_or_eq_true (decide (((i : Nat) : Int) < ((gs.length : Nat) : Int))) with hb9 | hb9
 · have hb9' := of_decide_eq_true hb9
   refine seq_do (v := .bool true) hA rfl rfl rfl (does_bin rfl rfl (fun w => (bin_lss w).trans (by rw [hb9]))) ?_
   intro a hA
   refine seq_end ?_
   refine hK8 _ _ ?_
   refine wp_seq_k (fun K10 hK10 => ?_)
   refine wp_cond_true (hA.ev rfl) ?_
   refine wp_skip ?_
   refine hK10 _ _ ?_
   refine wp_seq_k (fun K11 hK11 => ?_)
   refine wp_block ?_
   refine wp_seq_k (fun K12 hK12 => ?_)
   obtain ⟨gg, hgg⟩ := row_someH (hM.has 2 rfl) (show gs.length ≠ 0 by omega)
   obtain ⟨p, s, hat⟩ : ∃ p s, gs[i]? = some (p, s) := ⟨_, _, List.getElem?_eq_getElem (show i < gs.length by omega)⟩
   have hs1 := sumG_take hat
   have hs2 := sumG_part gs (i + 1)
   refine wp_region_lit ?_
   refine seq_do (v := .pointer (some ⟨gg, i * 2, none⟩)) hA rfl rfl rfl (does_ixO (k := i) Try.underlying68 (by kernel_rfl) rfl rfl rfl hgg (by omega)) ?_
   intro a hA
   refine seq_do hA rfl rfl rfl (m_ldOS (o := i * 2) (cs := [.int .i64 (((p : Nat) : Int)), .int .i64 (((s : Nat) : Int))]) hM 2 rfl hgg HbE_isS_96 (gapC_at hat) rfl rfl) ?_
   intro a hA
   refine s_new (vs := [.int .i64 0, .int .i64 0]) (t := 96) hA hM rfl rfl rfl (fun g => .pointer (some ⟨g, 0, none⟩)) (does_alloc (z := .agg #[.int .i64 0, .int .i64 0]) (by kernel_rfl) rfl) (by decide) ?_
   intro g13 w14 hM a hA
   refine s_store (us := [.int .i64 (((p : Nat) : Int)), .int .i64 (((s : Nat) : Int))]) (L' := (.obj g13 (.cells #[.int .i64 (((p : Nat) : Int)), .int .i64 (((s : Nat) : Int))] 96) :: .obj h (.cells #[.map (some m), .int .i64 (((last : Nat) : Int)), .int .i64 (((ss : Nat) : Int)), .slice sg gs.length sc, .int .i64 (((ls : Nat) : Int)), .slice lg gl.length lc] 73) :: .obj m (mapO (os.map Ob.en) last) :: .row 96 2 (.slice sg gs.length sc) gs.length (gapC gs) :: .row 96 2 (.slice lg gl.length lc) gl.length (gapC gl) :: T)) hA hM rfl rfl (m_store rfl rfl rfl (by kernel_rfl) hM 0 rfl rfl rfl) 0 rfl rfl rfl ?_
   intro w15 hM
   refine seq_end ?_
   refine hK12 _ _ ?_
   refine wp_region_lit ?_
   refine seq_do hA rfl rfl rfl (does_move rfl) ?_
   intro a hA
   refine seq_do (v := .pointer (some ⟨g13, 1, none⟩)) hA rfl rfl rfl (does_field HbE_fld_96_1 rfl rfl) ?_
   intro a hA
   refine seq_do hA rfl rfl rfl (m_load1 hM HbE_is1_3 rfl 0 rfl rfl) ?_
   intro a hA
   refine seq_do (v := .int .i64 (((q + s : Nat) : Int))) hA rfl rfl rfl (does_bin rfl rfl (ar_add ((in_i64 (by omega) (by omega)).trans (by omega)))) ?_
   intro a hA
   refine seq_do hA rfl rfl rfl (does_assign rfl) ?_
   intro a hA
   refine seq_end ?_
   refine hK11 _ _ ?_
   refine wp_region_lit ?_
   refine seq_do (v := .int .i64 (((i + 1 : Nat) : Int))) hA rfl rfl rfl (does_bin rfl rfl (ar_add ((in_i64 (by omega) (by omega)).trans (by omega)))) ?_
   intro a hA
   refine seq_do hA rfl rfl rfl (does_move rfl) ?_
   intro a hA
   refine seq_end ?_
   replace hM : Mg w0 w15 (.row 96 2 (.slice lg gl.length lc) gl.length (gapC gl) :: .obj g13 (.cells #[.int .i64 (((p : Nat) : Int)), .int .i64 (((s : Nat) : Int))] 96) :: .obj h (.cells #[.map (some m), .int .i64 (((last : Nat) : Int)), .int .i64 (((ss : Nat) : Int)), .slice sg gs.length sc, .int .i64 (((ls : Nat) : Int)), .slice lg gl.length lc] 73) :: .obj m (mapO (os.map Ob.en) last) :: .row 96 2 (.slice sg gs.length sc) gs.length (gapC gs) :: T) := hM.bring 4 rfl rfl
   replace hM : Mg w0 w15 (.row 96 2 (.slice sg gs.length sc) gs.length (gapC gs) :: .row 96 2 (.slice lg gl.length lc) gl.length (gapC gl) :: .obj g13 (.cells #[.int .i64 (((p : Nat) : Int)), .int .i64 (((s : Nat) : Int))] 96) :: .obj h (.cells #[.map (some m), .int .i64 (((last : Nat) : Int)), .int .i64 (((ss : Nat) : Int)), .slice sg gs.length sc, .int .i64 (((ls : Nat) : Int)), .slice lg gl.length lc] 73) :: .obj m (mapO (os.map Ob.en) last) :: T) := hM.bring 4 rfl rfl
   replace hM : Mg w0 w15 (.obj m (mapO (os.map Ob.en) last) :: .row 96 2 (.slice sg gs.length sc) gs.length (gapC gs) :: .row 96 2 (.slice lg gl.length lc) gl.length (gapC gl) :: .obj g13 (.cells #[.int .i64 (((p : Nat) : Int)), .int .i64 (((s : Nat) : Int))] 96) :: .obj h (.cells #[.map (some m), .int .i64 (((last : Nat) : Int)), .int .i64 (((ss : Nat) : Int)), .slice sg gs.length sc, .int .i64 (((ls : Nat) : Int)), .slice lg gl.length lc] 73) :: T) := hM.bring 4 rfl rfl
   replace hM : Mg w0 w15 (.obj h (.cells #[.map (some m), .int .i64 (((last : Nat) : Int)), .int .i64 (((ss : Nat) : Int)), .slice sg gs.length sc, .int .i64 (((ls : Nat) : Int)), .slice lg gl.length lc] 73) :: .obj m (mapO (os.map Ob.en) last) :: .row 96 2 (.slice sg gs.length sc) gs.length (gapC gs) :: .row 96 2 (.slice lg gl.length lc) gl.length (gapC gl) :: .obj g13 (.cells #[.int .i64 (((p : Nat) : Int)), .int .i64 (((s : Nat) : Int))] 96) :: T) := hM.bring 4 rfl rfl
   replace hM : Mg w0 w15 (.obj h (.cells #[.map (some m), .int .i64 (((last : Nat) : Int)), .int .i64 (((ss : Nat) : Int)), .slice sg gs.length sc, .int .i64 (((ls : Nat) : Int)), .slice lg gl.length lc] 73) :: .obj m (mapO (os.map Ob.en) last) :: .row 96 2 (.slice sg gs.length sc) gs.length (gapC gs) :: .row 96 2 (.slice lg gl.length lc) gl.length (gapC gl) :: T) := by
     have h9 := hM.sub (.cons_cons _ (.cons_cons _ (.cons_cons _ (.cons_cons _ (.cons _ (.refl _))))))
     exact h9
   refine hK6 _ _ _ (by omega) ⟨i + 1, q + s, rfl, ⟨by omega, by omega⟩, hA.keep _ ⟨rfl, rfl, rfl, rfl, rfl, rfl, rfl, rfl, rfl, trivial⟩, hM⟩
 · have hb9' := of_decide_eq_false hb9
   refine seq_do (v := .bool false) hA rfl rfl rfl (does_bin rfl rfl (fun w => (bin_lss w).trans (by rw [hb9]))) ?_
   intro a hA
   refine seq_end ?_
   refine hK8 _ _ ?_
   refine wp_seq_k (fun K16 hK16 => ?_)
   refine wp_cond_false (hA.ev rfl) ?_
   refine wp_exit ?_
   refine hK3 _ _ ?_
   refine wp_seq_k (fun K17 hK17 => ?_)
   refine wp_region_lit ?_
   refine seq_do hA rfl rfl rfl (does_move rfl) ?_
   intro a hA
   refine seq_do hA rfl rfl rfl (does_assign rfl) ?_
   intro a hA
   refine seq_end ?_
   refine hK17 _ _ ?_
   refine wp_ret ?_
   refine hret _ _ ?_
   refine ends (v := .int .i64 (((q : Nat) : Int))) hA rfl (.cons (res_tmp rfl) .nil) rfl ?_
   replace hM : Mg w0 w5 (.row 96 2 (.slice lg gl.length lc) gl.length (gapC gl) :: .obj h (.cells #[.map (some m), .int .i64 (((last : Nat) : Int)), .int .i64 (((ss : Nat) : Int)), .slice sg gs.length sc, .int .i64 (((ls : Nat) : Int)), .slice lg gl.length lc] 73) :: .obj m (mapO (os.map Ob.en) last) :: .row 96 2 (.slice sg gs.length sc) gs.length (gapC gs) :: T) := hM.bring 3 rfl rfl
   replace hM : Mg w0 w5 (.row 96 2 (.slice sg gs.length sc) gs.length (gapC gs) :: .row 96 2 (.slice lg gl.length lc) gl.length (gapC gl) :: .obj h (.cells #[.map (some m), .int .i64 (((last : Nat) : Int)), .int .i64 (((ss : Nat) : Int)), .slice sg gs.length sc, .int .i64 (((ls : Nat) : Int)), .slice lg gl.length lc] 73) :: .obj m (mapO (os.map Ob.en) last) :: T) := hM.bring 3 rfl rfl
   replace hM : Mg w0 w5 (.obj m (mapO (os.map Ob.en) last) :: .row 96 2 (.slice sg gs.length sc) gs.length (gapC gs) :: .row 96 2 (.slice lg gl.length lc) gl.length (gapC gl) :: .obj h (.cells #[.map (some m), .int .i64 (((last : Nat) : Int)), .int .i64 (((ss : Nat) : Int)), .slice sg gs.length sc, .int .i64 (((ls : Nat) : Int)), .slice lg gl.length lc] 73) :: T) := hM.bring 3 rfl rfl
   replace hM : Mg w0 w5 (.obj h (.cells #[.map (some m), .int .i64 (((last : Nat) : Int)), .int .i64 (((ss : Nat) : Int)), .slice sg gs.length sc, .int .i64 (((ls : Nat) : Int)), .slice lg gl.length lc] 73) :: .obj m (mapO (os.map Ob.en) last) :: .row 96 2 (.slice sg gs.length sc) gs.length (gapC gs) :: .row 96 2 (.slice lg gl.length lc) gl.length (gapC gl) :: T) := hM.bring 3 rfl rfl
   exact ⟨by rw [show sumG gs = q from by rw [hq, List.take_of_length_le (by omega)]], hM⟩
theorem freeL_any {w0 w : World} {h m last ss ls sc lc : Nat} {sg lg : Option Addr} {gs gl : List (Nat × Nat)} {os : List Ob} {T : List Ck} (hgl : gl.length ≤ 1000000) (hsm : sumG gl ≤ 1000000000) (hM0 : Mg w0 w (.obj h (.cells #[.map (some m), .int .i64 (((last : Nat) : Int)), .int .i64 (((ss : Nat) : Int)), .slice sg gs.length sc, .int .i64 (((ls : Nat) : Int)), .slice lg gl.length lc] 73) :: .obj m (mapO (os.map Ob.en) last) :: .row 96 2 (.slice sg gs.length sc) gs.length (gapC gs) :: .row 96 2 (.slice lg gl.length lc) gl.length (gapC gl) :: T)) : Calls Try.prog 42 #[.pointer (some ⟨h, 4, none⟩)] w fun e w' => e = .returned (.int .i64 ((sumG gl : Nat) : Int)) ∧ Mg w0 w' (.obj h (.cells #[.map (some m), .int .i64 (((last : Nat) : Int)), .int .i64 (((ss : Nat) : Int)), .slice sg gs.length sc, .int .i64 (((ls : Nat) : Int)), .slice lg gl.length lc] 73) :: .obj m (mapO (os.map Ob.en) last) :: .row 96 2 (.slice sg gs.length sc) gs.length (gapC gs) :: .row 96 2 (.slice lg gl.length lc) gl.length (gapC gl) :: T) := by
 have hM : Mg w0 w (.obj h (.cells #[.map (some m), .int .i64 (((last : Nat) : Int)), .int .i64 (((ss : Nat) : Int)), .slice sg gs.length sc, .int .i64 (((ls : Nat) : Int)), .slice lg gl.length lc] 73) :: .obj m (mapO (os.map Ob.en) last) :: .row 96 2 (.slice sg gs.length sc) gs.length (gapC gs) :: .row 96 2 (.slice lg gl.length lc) gl.length (gapC gl) :: T) := hM0
 refine walk_of (l := [(0, .pointer (some ⟨h, 4, none⟩))]) Try.func42 rfl Try.ntmps42 rfl rfl ?_
 intro Q hret hnorm hP a hA
 refine wp_seq_k (fun K1 hK1 => ?_)
 refine wp_region_lit ?_
 refine seq_do hA rfl rfl rfl (does_assign rfl) ?_
 intro a hA
 refine seq_end ?_
 refine hK1 _ _ ?_
 refine wp_seq_k (fun K2 hK2 => ?_)
 refine wp_region_lit ?_
 refine seq_do hA rfl rfl rfl (does_assign rfl) ?_
 intro a hA
 refine seq_end ?_
 refine hK2 _ _ ?_
 refine wp_seq_k (fun K3 hK3 => ?_)
 refine wp_seq_k (fun K4 hK4 => ?_)
 refine wp_region_lit ?_
 refine seq_do hA rfl rfl rfl (does_move rfl) ?_
 intro a hA
 refine seq_do hA rfl rfl rfl (does_nilq rfl) ?_
 intro a hA
 refine seq_do (v := .pointer (some ⟨h, 5, none⟩)) hA rfl rfl rfl (does_field HbE_fld_70_1 rfl rfl) ?_
 intro a hA
 refine seq_do hA rfl rfl rfl (m_load1 hM HbE_is1_68 rfl 0 rfl rfl) ?_
 intro a hA
 refine seq_do (v := .int .i64 (((gl.length : Nat) : Int))) hA rfl rfl rfl (does_len Try.underlying68 rfl) ?_
 intro a hA
 refine seq_do hA rfl rfl rfl (does_move rfl) ?_
 intro a hA
 refine seq_end ?_
 refine hK4 _ _ ?_
 refine wp_block ?_
 refine wp_loop_n (fun m_ a w1 => ∃ (i : Nat) (q : Nat), m_ = 1 + (gl.length - i) ∧ (i ≤ gl.length ∧ q = sumG (gl.take i)) ∧ Sl a 21 [(0, .pointer (some ⟨h, 4, none⟩)), (2, .int .i64 0), (3, .int .i64 (((q : Nat) : Int))), (6, .pointer (some ⟨h, 4, none⟩)), (7, .pointer (some ⟨h, 4, none⟩)), (8, .pointer (some ⟨h, 5, none⟩)), (9, .slice lg gl.length lc), (10, .int .i64 (((gl.length : Nat) : Int))), (11, .int .i64 (((i : Nat) : Int)))] ∧ Mg w0 w1 (.obj h (.cells #[.map (some m), .int .i64 (((last : Nat) : Int)), .int .i64 (((ss : Nat) : Int)), .slice sg gs.length sc, .int .i64 (((ls : Nat) : Int)), .slice lg gl.length lc] 73) :: .obj m (mapO (os.map Ob.en) last) :: .row 96 2 (.slice sg gs.length sc) gs.length (gapC gs) :: .row 96 2 (.slice lg gl.length lc) gl.length (gapC gl) :: T)) _ ⟨0, 0, rfl, ⟨Nat.zero_le _, rfl⟩, hA.keep _ ⟨rfl, rfl, rfl, rfl, rfl, rfl, rfl, rfl, rfl, trivial⟩, hM⟩ ?_
 clear hM hA
 rintro m_ a w5 ⟨i, q, rfl, hinv7, hA, hM⟩ K6 hK6
 obtain ⟨hi0, hq⟩ := hinv7
 refine wp_seq_k (fun K8 hK8 => ?_)
 refine wp_region_lit ?_
 rcases Bool.eq_false_or_eq_true (decide (((i : Nat) : Int) < ((gl.length : Nat) : Int))) with hb9 | hb9
 · have hb9' := of_decide_eq_true hb9
   refine seq_do (v := .bool true) hA rfl rfl rfl (does_bin rfl rfl (fun w => (bin_lss w).trans (by rw [hb9]))) ?_
   intro a hA
   refine seq_end ?_
   refine hK8 _ _ ?_
   refine wp_seq_k (fun K10 hK10 => ?_)
   refine wp_cond_true (hA.ev rfl) ?_
   refine wp_skip ?_
   refine hK10 _ _ ?_
   refine wp_seq_k (fun K11 hK11 => ?_)
   refine wp_block ?_
   refine wp_seq_k (fun K12 hK12 => ?_)
   obtain ⟨gg, hgg⟩ := row_someH (hM.has 3 rfl) (show gl.length ≠ 0 by omega)
   obtain ⟨p, s, hat⟩ : ∃ p s, gl[i]? = some (p, s) := ⟨_, _, List.getElem?_eq_getElem (show i < gl.length by omega)⟩
   have hs1 := sumG_take hat
   have hs2 := sumG_part gl (i + 1)
   refine wp_region_lit ?_
   refine seq_do (v := .pointer (some ⟨gg, i * 2, none⟩)) hA rfl rfl rfl (does_ixO (k := i) Try.underlying68 (by kernel_rfl) rfl rfl rfl hgg (by omega)) ?_
   intro a hA
   refine seq_do hA rfl rfl rfl (m_ldOS (o := i * 2) (cs := [.int .i64 (((p : Nat) : Int)), .int .i64 (((s : Nat) : Int))]) hM 3 rfl hgg HbE_isS_96 (gapC_at hat) rfl rfl) ?_
   intro a hA
   refine s_new (vs := [.int .i64 0, .int .i64 0]) (t := 96) hA hM rfl rfl rfl (fun g => .pointer (some ⟨g, 0, none⟩)) (does_alloc (z := .agg #[.int .i64 0, .int .i64 0]) (by kernel_rfl) rfl) (by decide) ?_
   intro g13 w14 hM a hA
   refine s_store (us := [.int .i64 (((p : Nat) : Int)), .int .i64 (((s : Nat) : Int))]) (L' := (.obj g13 (.cells #[.int .i64 (((p : Nat) : Int)), .int .i64 (((s : Nat) : Int))] 96) :: .obj h (.cells #[.map (some m), .int .i64 (((last : Nat) : Int)), .int .i64 (((ss : Nat) : Int)), .slice sg gs.length sc, .int .i64 (((ls : Nat) : Int)), .slice lg gl.length lc] 73) :: .obj m (mapO (os.map Ob.en) last) :: .row 96 2 (.slice sg gs.length sc) gs.length (gapC gs) :: .row 96 2 (.slice lg gl.length lc) gl.length (gapC gl) :: T)) hA hM rfl rfl (m_store rfl rfl rfl (by kernel_rfl) hM 0 rfl rfl rfl) 0 rfl rfl rfl ?_
   intro w15 hM
   refine seq_end ?_
   refine hK12 _ _ ?_
   refine wp_region_lit ?_
   refine seq_do hA rfl rfl rfl (does_move rfl) ?_
   intro a hA
   refine seq_do (v := .pointer (some ⟨g13, 1, none⟩)) hA rfl rfl rfl (does_field HbE_fld_96_1 rfl rfl) ?_
   intro a hA
   refine seq_do hA rfl rfl rfl (m_load1 hM HbE_is1_3 rfl 0 rfl rfl) ?_
   intro a hA
   refine seq_do (v := .int .i64 (((q + s : Nat) : Int))) hA rfl rfl rfl (does_bin rfl rfl (ar_add ((in_i64 (by omega) (by omega)).trans (by omega)))) ?_
   intro a hA
   refine seq_do hA rfl rfl rfl (does_assign rfl) ?_
   intro a hA
   refine seq_end ?_
   refine hK11 _ _ ?_
   refine wp_region_lit ?_
   refine seq_do (v := .int .i64 (((i + 1 : Nat) : Int))) hA rfl rfl rfl (does_bin rfl rfl (ar_add ((in_i64 (by omega) (by omega)).trans (by omega)))) ?_
   intro a hA
   refine seq_do hA rfl rfl rfl (does_move rfl) ?_
   intro a hA
   refine seq_end ?_
   replace hM : Mg w0 w15 (.row 96 2 (.slice lg gl.length lc) gl.length (gapC gl) :: .obj g13 (.cells #[.int .i64 (((p : Nat) : Int)), .int .i64 (((s : Nat) : Int))] 96) :: .obj h (.cells #[.map (some m), .int .i64 (((last : Nat) : Int)), .int .i64 (((ss : Nat) : Int)), .slice sg gs.length sc, .int .i64 (((ls : Nat) : Int)), .slice lg gl.length lc] 73) :: .obj m (mapO (os.map Ob.en) last) :: .row 96 2 (.slice sg gs.length sc) gs.length (gapC gs) :: T) := hM.bring 4 rfl rfl
   replace hM : Mg w0 w15 (.row 96 2 (.slice sg gs.length sc) gs.length (gapC gs) :: .row 96 2 (.slice lg gl.length lc) gl.length (gapC gl) :: .obj g13 (.cells #[.int .i64 (((p : Nat) : Int)), .int .i64 (((s : Nat) : Int))] 96) :: .obj h (.cells #[.map (some m), .int .i64 (((last : Nat) : Int)), .int .i64 (((ss : Nat) : Int)), .slice sg gs.length sc, .int .i64 (((ls : Nat) : Int)), .slice lg gl.length lc] 73) :: .obj m (mapO (os.map Ob.en) last) :: T) := hM.bring 4 rfl rfl
   replace hM : Mg w0 w15 (.obj m (mapO (os.map Ob.en) last) :: .row 96 2 (.slice sg gs.length sc) gs.length (gapC gs) :: .row 96 2 (.slice lg gl.length lc) gl.length (gapC gl) :: .obj g13 (.cells #[.int .i64 (((p : Nat) : Int)), .int .i64 (((s : Nat) : Int))] 96) :: .obj h (.cells #[.map (some m), .int .i64 (((last : Nat) : Int)), .int .i64 (((ss : Nat) : Int)), .slice sg gs.length sc, .int .i64 (((ls : Nat) : Int)), .slice lg gl.length lc] 73) :: T) := hM.bring 4 rfl rfl
   replace hM : Mg w0 w15 (.obj h (.cells #[.map (some m), .int .i64 (((last : Nat) : Int)), .int .i64 (((ss : Nat) : Int)), .slice sg gs.length sc, .int .i64 (((ls : Nat) : Int)), .slice lg gl.length lc] 73) :: .obj m (mapO (os.map Ob.en) last) :: .row 96 2 (.slice sg gs.length sc) gs.length (gapC gs) :: .row 96 2 (.slice lg gl.length lc) gl.length (gapC gl) :: .obj g13 (.cells #[.int .i64 (((p : Nat) : Int)), .int .i64 (((s : Nat) : Int))] 96) :: T) := hM.bring 4 rfl rfl
   replace hM : Mg w0 w15 (.obj h (.cells #[.map (some m), .int .i64 (((last : Nat) : Int)), .int .i64 (((ss : Nat) : Int)), .slice sg gs.length sc, .int .i64 (((ls : Nat) : Int)), .slice lg gl.length lc] 73) :: .obj m (mapO (os.map Ob.en) last) :: .row 96 2 (.slice sg gs.length sc) gs.length (gapC gs) :: .row 96 2 (.slice lg gl.length lc) gl.length (gapC gl) :: T) := by
     have h9 := hM.sub (.cons_cons _ (.cons_cons _ (.cons_cons _ (.cons_cons _ (.cons _ (.refl _))))))
     exact h9
   refine hK6 _ _ _ (by omega) ⟨i + 1, q + s, rfl, ⟨by omega, by omega⟩, hA.keep _ ⟨rfl, rfl, rfl, rfl, rfl, rfl, rfl, rfl, rfl, trivial⟩, hM⟩
 · have hb9' := of_decide_eq_false hb9
   refine seq_do (v := .bool false) hA rfl rfl rfl (does_bin rfl rfl (fun w => (bin_lss w).trans (by rw [hb9]))) ?_
   intro a hA
   refine seq_end ?_
   refine hK8 _ _ ?_
   refine wp_seq_k (fun K16 hK16 => ?_)
   refine wp_cond_false (hA.ev rfl) ?_
   refine wp_exit ?_
   refine hK3 _ _ ?_
   refine wp_seq_k (fun K17 hK17 => ?_)
   refine wp_region_lit ?_
   refine seq_do hA rfl rfl rfl (does_move rfl) ?_
   intro a hA
   refine seq_do hA rfl rfl rfl (does_assign rfl) ?_
   intro a hA
   refine seq_end ?_
   refine hK17 _ _ ?_
   refine wp_ret ?_
   refine hret _ _ ?_
   refine ends (v := .int .i64 (((q : Nat) : Int))) hA rfl (.cons (res_tmp rfl) .nil) rfl ?_
   replace hM : Mg w0 w5 (.row 96 2 (.slice lg gl.length lc) gl.length (gapC gl) :: .obj h (.cells #[.map (some m), .int .i64 (((last : Nat) : Int)), .int .i64 (((ss : Nat) : Int)), .slice sg gs.length sc, .int .i64 (((ls : Nat) : Int)), .slice lg gl.length lc] 73) :: .obj m (mapO (os.map Ob.en) last) :: .row 96 2 (.slice sg gs.length sc) gs.length (gapC gs) :: T) := hM.bring 3 rfl rfl
   replace hM : Mg w0 w5 (.row 96 2 (.slice sg gs.length sc) gs.length (gapC gs) :: .row 96 2 (.slice lg gl.length lc) gl.length (gapC gl) :: .obj h (.cells #[.map (some m), .int .i64 (((last : Nat) : Int)), .int .i64 (((ss : Nat) : Int)), .slice sg gs.length sc, .int .i64 (((ls : Nat) : Int)), .slice lg gl.length lc] 73) :: .obj m (mapO (os.map Ob.en) last) :: T) := hM.bring 3 rfl rfl
   replace hM : Mg w0 w5 (.obj m (mapO (os.map Ob.en) last) :: .row 96 2 (.slice sg gs.length sc) gs.length (gapC gs) :: .row 96 2 (.slice lg gl.length lc) gl.length (gapC gl) :: .obj h (.cells #[.map (some m), .int .i64 (((last : Nat) : Int)), .int .i64 (((ss : Nat) : Int)), .slice sg gs.length sc, .int .i64 (((ls : Nat) : Int)), .slice lg gl.length lc] 73) :: T) := hM.bring 3 rfl rfl
   replace hM : Mg w0 w5 (.obj h (.cells #[.map (some m), .int .i64 (((last : Nat) : Int)), .int .i64 (((ss : Nat) : Int)), .slice sg gs.length sc, .int .i64 (((ls : Nat) : Int)), .slice lg gl.length lc] 73) :: .obj m (mapO (os.map Ob.en) last) :: .row 96 2 (.slice sg gs.length sc) gs.length (gapC gs) :: .row 96 2 (.slice lg gl.length lc) gl.length (gapC gl) :: T) := hM.bring 3 rfl rfl
   exact ⟨by rw [show sumG gl = q from by rw [hq, List.take_of_length_le (by omega)]], hM⟩
theorem free_any {w0 w : World} {h m last ss ls sc lc : Nat} {sg lg : Option Addr} {gs gl : List (Nat × Nat)} {os : List Ob} {T : List Ck} (hgS : gs.length ≤ 1000000) (hgL : gl.length ≤ 1000000) (hsS : sumG gs ≤ 1000000000) (hsL : sumG gl ≤ 1000000000) (hM0 : Mg w0 w (.obj h (.cells #[.map (some m), .int .i64 (((last : Nat) : Int)), .int .i64 (((ss : Nat) : Int)), .slice sg gs.length sc, .int .i64 (((ls : Nat) : Int)), .slice lg gl.length lc] 73) :: .obj m (mapO (os.map Ob.en) last) :: .row 96 2 (.slice sg gs.length sc) gs.length (gapC gs) :: .row 96 2 (.slice lg gl.length lc) gl.length (gapC gl) :: T)) : Calls Try.prog 21 #[.pointer (some ⟨h, 0, none⟩)] w fun e w' => e = .returned (.tuple #[.int .i64 ((sumG gs : Nat) : Int), .int .i64 ((sumG gl : Nat) : Int)]) ∧ Mg w0 w' (.obj h (.cells #[.map (some m), .int .i64 (((last : Nat) : Int)), .int .i64 (((ss : Nat) : Int)), .slice sg gs.length sc, .int .i64 (((ls : Nat) : Int)), .slice lg gl.length lc] 73) :: .obj m (mapO (os.map Ob.en) last) :: .row 96 2 (.slice sg gs.length sc) gs.length (gapC gs) :: .row 96 2 (.slice lg gl.length lc) gl.length (gapC gl) :: T) := by
 have hM : Mg w0 w (.obj h (.cells #[.map (some m), .int .i64 (((last : Nat) : Int)), .int .i64 (((ss : Nat) : Int)), .slice sg gs.length sc, .int .i64 (((ls : Nat) : Int)), .slice lg gl.length lc] 73) :: .obj m (mapO (os.map Ob.en) last) :: .row 96 2 (.slice sg gs.length sc) gs.length (gapC gs) :: .row 96 2 (.slice lg gl.length lc) gl.length (gapC gl) :: T) := hM0
 refine walk_of (l := [(0, .pointer (some ⟨h, 0, none⟩))]) Try.func21 rfl Try.ntmps21 rfl rfl ?_
 intro Q hret hnorm hP a hA
 refine wp_seq_k (fun K1 hK1 => ?_)
 refine wp_region_lit ?_
 refine seq_do hA rfl rfl rfl (does_assign rfl) ?_
 intro a hA
 refine seq_do hA rfl rfl rfl (does_assign rfl) ?_
 intro a hA
 refine seq_end ?_
 refine hK1 _ _ ?_
 refine wp_seq_k (fun K2 hK2 => ?_)
 refine wp_seq_k (fun K3 hK3 => ?_)
 refine wp_region_lit ?_
 refine seq_do hA rfl rfl rfl (does_move rfl) ?_
 intro a hA
 refine seq_do (v := .bool false) hA rfl rfl rfl (does_bin rfl rfl (bin_nilN Try.underlying24)) ?_
 intro a hA
 refine seq_end ?_
 refine hK3 _ _ ?_
 refine wp_cond_false (hA.ev rfl) ?_
 refine wp_skip ?_
 refine hK2 _ _ ?_
 refine wp_seq_k (fun K4 hK4 => ?_)
 refine wp_draw (S := fun w1 => Mg w0 w1 ([])) (by kernel_rfl) ?_
 replace hM := hM.drew
 refine any_tk hA 0 rfl rfl rfl rfl hP (hM.sub (.cons _ (.cons _ (.cons _ (.cons _ (List.nil_sublist _)))))) (fun w1 hM => does_move rfl) ?_
 intro a hA
 refine any_tk hA 1 rfl rfl rfl rfl hP (hM.sub (.cons _ (.cons _ (.cons _ (.cons _ (List.nil_sublist _)))))) (fun w1 hM => does_nilq rfl) ?_
 intro a hA
 refine any_tk (v := .pointer (some ⟨h, 2, none⟩)) hA 2 rfl rfl rfl rfl hP (hM.sub (.cons _ (.cons _ (.cons _ (.cons _ (List.nil_sublist _)))))) (fun w1 hM => does_field HbE_fld_73_2 rfl rfl) ?_
 intro a hA
 refine any_tk hA 4 rfl rfl rfl rfl hP (hM.sub (.cons _ (.cons _ (.cons _ (.cons _ (List.nil_sublist _)))))) (fun w1 hM => does_move rfl) ?_
 intro a hA
 refine any_tk hA 5 rfl rfl rfl rfl hP (hM.sub (.cons _ (.cons _ (.cons _ (.cons _ (List.nil_sublist _)))))) (fun w1 hM => does_nilq rfl) ?_
 intro a hA
 refine any_tk (v := .pointer (some ⟨h, 4, none⟩)) hA 6 rfl rfl rfl rfl hP (hM.sub (.cons _ (.cons _ (.cons _ (.cons _ (List.nil_sublist _)))))) (fun w1 hM => does_field HbE_fld_73_3 rfl rfl) ?_
 intro a hA
 replace hM : Mg w0 w.drew (.row 96 2 (.slice lg gl.length lc) gl.length (gapC gl) :: .obj h (.cells #[.map (some m), .int .i64 (((last : Nat) : Int)), .int .i64 (((ss : Nat) : Int)), .slice sg gs.length sc, .int .i64 (((ls : Nat) : Int)), .slice lg gl.length lc] 73) :: .obj m (mapO (os.map Ob.en) last) :: .row 96 2 (.slice sg gs.length sc) gs.length (gapC gs) :: T) := hM.bring 3 rfl rfl
 replace hM : Mg w0 w.drew (.row 96 2 (.slice sg gs.length sc) gs.length (gapC gs) :: .row 96 2 (.slice lg gl.length lc) gl.length (gapC gl) :: .obj h (.cells #[.map (some m), .int .i64 (((last : Nat) : Int)), .int .i64 (((ss : Nat) : Int)), .slice sg gs.length sc, .int .i64 (((ls : Nat) : Int)), .slice lg gl.length lc] 73) :: .obj m (mapO (os.map Ob.en) last) :: T) := hM.bring 3 rfl rfl
 replace hM : Mg w0 w.drew (.obj m (mapO (os.map Ob.en) last) :: .row 96 2 (.slice sg gs.length sc) gs.length (gapC gs) :: .row 96 2 (.slice lg gl.length lc) gl.length (gapC gl) :: .obj h (.cells #[.map (some m), .int .i64 (((last : Nat) : Int)), .int .i64 (((ss : Nat) : Int)), .slice sg gs.length sc, .int .i64 (((ls : Nat) : Int)), .slice lg gl.length lc] 73) :: T) := hM.bring 3 rfl rfl
 replace hM : Mg w0 w.drew (.obj h (.cells #[.map (some m), .int .i64 (((last : Nat) : Int)), .int .i64 (((ss : Nat) : Int)), .slice sg gs.length sc, .int .i64 (((ls : Nat) : Int)), .slice lg gl.length lc] 73) :: .obj m (mapO (os.map Ob.en) last) :: .row 96 2 (.slice sg gs.length sc) gs.length (gapC gs) :: .row 96 2 (.slice lg gl.length lc) gl.length (gapC gl) :: T) := hM.bring 3 rfl rfl
 refine any_one (by kernel_rfl) (op_call hA 3 rfl rfl rfl rfl (enters_func rfl rfl (fun w => by kernel_rfl)) (freeS_any hgS hsS hM) ?_)
 rintro _ w6 ⟨rfl, hM5⟩
 replace hM : Mg w0 w6 (.obj h (.cells #[.map (some m), .int .i64 (((last : Nat) : Int)), .int .i64 (((ss : Nat) : Int)), .slice sg gs.length sc, .int .i64 (((ls : Nat) : Int)), .slice lg gl.length lc] 73) :: .obj m (mapO (os.map Ob.en) last) :: .row 96 2 (.slice sg gs.length sc) gs.length (gapC gs) :: .row 96 2 (.slice lg gl.length lc) gl.length (gapC gl) :: T) := hM5
 refine ⟨_, rfl, (hM.sub (.cons _ (.cons _ (.cons _ (.cons _ (List.nil_sublist _)))))), ?_⟩
 intro a hA
 replace hM : Mg w0 w6 (.row 96 2 (.slice lg gl.length lc) gl.length (gapC gl) :: .obj h (.cells #[.map (some m), .int .i64 (((last : Nat) : Int)), .int .i64 (((ss : Nat) : Int)), .slice sg gs.length sc, .int .i64 (((ls : Nat) : Int)), .slice lg gl.length lc] 73) :: .obj m (mapO (os.map Ob.en) last) :: .row 96 2 (.slice sg gs.length sc) gs.length (gapC gs) :: T) := hM.bring 3 rfl rfl
 replace hM : Mg w0 w6 (.row 96 2 (.slice sg gs.length sc) gs.length (gapC gs) :: .row 96 2 (.slice lg gl.length lc) gl.length (gapC gl) :: .obj h (.cells #[.map (some m), .int .i64 (((last : Nat) : Int)), .int .i64 (((ss : Nat) : Int)), .slice sg gs.length sc, .int .i64 (((ls : Nat) : Int)), .slice lg gl.length lc] 73) :: .obj m (mapO (os.map Ob.en) last) :: T) := hM.bring 3 rfl rfl
 replace hM : Mg w0 w6 (.obj m (mapO (os.map Ob.en) last) :: .row 96 2 (.slice sg gs.length sc) gs.length (gapC gs) :: .row 96 2 (.slice lg gl.length lc) gl.length (gapC gl) :: .obj h (.cells #[.map (some m), .int .i64 (((last : Nat) : Int)), .int .i64 (((ss : Nat) : Int)), .slice sg gs.length sc, .int .i64 (((ls : Nat) : Int)), .slice lg gl.length lc] 73) :: T) := hM.bring 3 rfl rfl
 replace hM : Mg w0 w6 (.obj h (.cells #[.map (some m), .int .i64 (((last : Nat) : Int)), .int .i64 (((ss : Nat) : Int)), .slice sg gs.length sc, .int .i64 (((ls : Nat) : Int)), .slice lg gl.length lc] 73) :: .obj m (mapO (os.map Ob.en) last) :: .row 96 2 (.slice sg gs.length sc) gs.length (gapC gs) :: .row 96 2 (.slice lg gl.length lc) gl.length (gapC gl) :: T) := hM.bring 3 rfl rfl
 refine any_one (by kernel_rfl) (op_call hA 7 rfl rfl rfl rfl (enters_func rfl rfl (fun w => by kernel_rfl)) (freeL_any hgL hsL hM) ?_)
 rintro _ w8 ⟨rfl, hM7⟩
 replace hM : Mg w0 w8 (.obj h (.cells #[.map (some m), .int .i64 (((last : Nat) : Int)), .int .i64 (((ss : Nat) : Int)), .slice sg gs.length sc, .int .i64 (((ls : Nat) : Int)), .slice lg gl.length lc] 73) :: .obj m (mapO (os.map Ob.en) last) :: .row 96 2 (.slice sg gs.length sc) gs.length (gapC gs) :: .row 96 2 (.slice lg gl.length lc) gl.length (gapC gl) :: T) := hM7
 refine ⟨_, rfl, (hM.sub (.cons _ (.cons _ (.cons _ (.cons _ (List.nil_sublist _)))))), ?_⟩
 intro a hA
 refine any_tk hA 8 rfl rfl rfl rfl hP (hM.sub (.cons _ (.cons _ (.cons _ (.cons _ (List.nil_sublist _)))))) (fun w1 hM => does_assign rfl) ?_
 intro a hA
 refine any_tk hA 9 rfl rfl rfl rfl hP (hM.sub (.cons _ (.cons _ (.cons _ (.cons _ (List.nil_sublist _)))))) (fun w1 hM => does_assign rfl) ?_
 intro a hA
 refine any_end (by kernel_rfl) ?_
 refine hK4 _ _ ?_
 refine wp_ret ?_
 refine hret _ _ ?_
 refine ends (v := .tuple #[.int .i64 (((sumG gs : Nat) : Int)), .int .i64 (((sumG gl : Nat) : Int))]) hA rfl (.cons (res_tmp rfl) (.cons (res_tmp rfl) .nil)) rfl ?_
 exact ⟨rfl, hM⟩
theorem names_any {w0 w : World} {x : Int} {h m last ss ls sc lc : Nat} {sg lg : Option Addr} {gs gl : List (Nat × Nat)} {os : List Ob} {T : List Ck} (hM0 : Mg w0 w (.obj h (.cells #[.map (some m), .int .i64 (((last : Nat) : Int)), .int .i64 (((ss : Nat) : Int)), .slice sg gs.length sc, .int .i64 (((ls : Nat) : Int)), .slice lg gl.length lc] 73) :: .obj m (mapO (os.map Ob.en) last) :: .row 96 2 (.slice sg gs.length sc) gs.length (gapC gs) :: .row 96 2 (.slice lg gl.length lc) gl.length (gapC gl) :: T)) : Calls Try.prog 34 #[.pointer (some ⟨h, 0, none⟩), .int .i64 x] w fun e w' => e = .returned (.bool (x == 0 || (fO x os).isSome)) ∧ Mg w0 w' (.obj h (.cells #[.map (some m), .int .i64 (((last : Nat) : Int)), .int .i64 (((ss : Nat) : Int)), .slice sg gs.length sc, .int .i64 (((ls : Nat) : Int)), .slice lg gl.length lc] 73) :: .obj m (mapO (os.map Ob.en) last) :: .row 96 2 (.slice sg gs.length sc) gs.length (gapC gs) :: .row 96 2 (.slice lg gl.length lc) gl.length (gapC gl) :: T) := by
 have hM : Mg w0 w (.obj h (.cells #[.map (some m), .int .i64 (((last : Nat) : Int)), .int .i64 (((ss : Nat) : Int)), .slice sg gs.length sc, .int .i64 (((ls : Nat) : Int)), .slice lg gl.length lc] 73) :: .obj m (mapO (os.map Ob.en) last) :: .row 96 2 (.slice sg gs.length sc) gs.length (gapC gs) :: .row 96 2 (.slice lg gl.length lc) gl.length (gapC gl) :: T) := hM0
 refine walk_of (l := [(0, .pointer (some ⟨h, 0, none⟩)), (1, .int .i64 x)]) Try.func34 rfl Try.ntmps34 rfl rfl ?_
 intro Q hret hnorm hP a hA
 refine wp_seq_k (fun K1 hK1 => ?_)
 refine wp_region_lit ?_
 refine seq_do hA rfl rfl rfl (does_assign rfl) ?_
 intro a hA
 refine seq_end ?_
 refine hK1 _ _ ?_
 refine wp_seq_k (fun K2 hK2 => ?_)
 refine wp_region_lit ?_
 refine seq_do hA rfl rfl rfl (does_move rfl) ?_
 intro a hA
 refine seq_do hA rfl rfl rfl (does_nilq rfl) ?_
 intro a hA
 refine seq_do (v := .pointer (some ⟨h, 0, none⟩)) hA rfl rfl rfl (does_field HbE_fld_73_0 rfl rfl) ?_
 intro a hA
 refine seq_do hA rfl rfl rfl (m_load1 hM HbE_is1_67 rfl 0 rfl rfl) ?_
 intro a hA
 refine seq_do hA rfl rfl rfl (does_move rfl) ?_
 intro a hA
 rcases Bool.eq_false_or_eq_true ((fO x os).isSome) with hb3 | hb3
 · obtain ⟨o4, ho5⟩ := Option.isSome_iff_exists.1 hb3
   have ho5k : atK x (os.map Ob.en) = some o4.en := by rw [atK_en, ho5]; rfl
   refine seq_do (v := .tuple #[.agg #[.int .i64 (((o4.p : Nat) : Int)), .slice (some ⟨o4.g, 0, none⟩) o4.ws.length o4.c], .bool true]) hA rfl rfl rfl (m_lookY hM Try.underlying67 Try.underlying3 rfl rfl 1 rfl ho5k rfl) ?_
   intro a hA
   refine seq_do hA rfl rfl rfl (does_move rfl) ?_
   intro a hA
   refine seq_do (v := .agg #[.int .i64 (((o4.p : Nat) : Int)), .slice (some ⟨o4.g, 0, none⟩) o4.ws.length o4.c]) hA rfl rfl rfl (does_extract (vs := [.agg #[.int .i64 (((o4.p : Nat) : Int)), .slice (some ⟨o4.g, 0, none⟩) o4.ws.length o4.c], .bool true]) rfl rfl) ?_
   intro a hA
   refine seq_do (v := .bool true) hA rfl rfl rfl (does_extract (vs := [.agg #[.int .i64 (((o4.p : Nat) : Int)), .slice (some ⟨o4.g, 0, none⟩) o4.ws.length o4.c], .bool true]) rfl rfl) ?_
   intro a hA
   refine s_new (vs := [.int .i64 0, .slice none 0 0]) (t := 79) hA hM rfl rfl rfl (fun g => .pointer (some ⟨g, 0, none⟩)) (does_alloc (z := .agg #[.int .i64 0, .slice none 0 0]) (by kernel_rfl) rfl) (by decide) ?_
   intro g6 w7 hM a hA
   refine s_store (us := [.int .i64 (((o4.p : Nat) : Int)), .slice (some ⟨o4.g, 0, none⟩) o4.ws.length o4.c]) (L' := (.obj g6 (.cells #[.int .i64 (((o4.p : Nat) : Int)), .slice (some ⟨o4.g, 0, none⟩) o4.ws.length o4.c] 79) :: .obj h (.cells #[.map (some m), .int .i64 (((last : Nat) : Int)), .int .i64 (((ss : Nat) : Int)), .slice sg gs.length sc, .int .i64 (((ls : Nat) : Int)), .slice lg gl.length lc] 73) :: .obj m (mapO (os.map Ob.en) last) :: .row 96 2 (.slice sg gs.length sc) gs.length (gapC gs) :: .row 96 2 (.slice lg gl.length lc) gl.length (gapC gl) :: T)) hA hM rfl rfl (m_store rfl rfl rfl (by kernel_rfl) hM 0 rfl rfl rfl) 0 rfl rfl rfl ?_
   intro w8 hM
   refine seq_do hA rfl rfl rfl (does_assign rfl) ?_
   intro a hA
   refine seq_end ?_
   refine hK2 _ _ ?_
   refine wp_seq_k (fun K9 hK9 => ?_)
   refine wp_region_lit ?_
   refine seq_do hA rfl rfl rfl (does_move rfl) ?_
   intro a hA
   rcases Bool.eq_false_or_eq_true ((x == 0)) with hb10 | hb10
   · have hb10' := eq_of_beq hb10
     refine seq_do (v := .bool true) hA rfl rfl rfl (does_bin rfl rfl (fun w => (bin_eql w).trans (by rw [hb10]))) ?_
     intro a hA
     refine seq_do hA rfl rfl rfl (does_move rfl) ?_
     intro a hA
     refine seq_skip hA rfl rfl rfl ?_
     intro a hA
     refine seq_do (v := .bool true) hA rfl rfl rfl (does_pick rfl rfl rfl rfl) ?_
     intro a hA
     refine seq_do hA rfl rfl rfl (does_assign rfl) ?_
     intro a hA
     refine seq_end ?_
     refine hK9 _ _ ?_
     refine wp_ret ?_
     refine hret _ _ ?_
     refine ends (v := .bool true) hA rfl (.cons (res_tmp rfl) .nil) rfl ?_
     replace hM : Mg w0 w8 (.row 96 2 (.slice lg gl.length lc) gl.length (gapC gl) :: .obj g6 (.cells #[.int .i64 (((o4.p : Nat) : Int)), .slice (some ⟨o4.g, 0, none⟩) o4.ws.length o4.c] 79) :: .obj h (.cells #[.map (some m), .int .i64 (((last : Nat) : Int)), .int .i64 (((ss : Nat) : Int)), .slice sg gs.length sc, .int .i64 (((ls : Nat) : Int)), .slice lg gl.length lc] 73) :: .obj m (mapO (os.map Ob.en) last) :: .row 96 2 (.slice sg gs.length sc) gs.length (gapC gs) :: T) := hM.bring 4 rfl rfl
     replace hM : Mg w0 w8 (.row 96 2 (.slice sg gs.length sc) gs.length (gapC gs) :: .row 96 2 (.slice lg gl.length lc) gl.length (gapC gl) :: .obj g6 (.cells #[.int .i64 (((o4.p : Nat) : Int)), .slice (some ⟨o4.g, 0, none⟩) o4.ws.length o4.c] 79) :: .obj h (.cells #[.map (some m), .int .i64 (((last : Nat) : Int)), .int .i64 (((ss : Nat) : Int)), .slice sg gs.length sc, .int .i64 (((ls : Nat) : Int)), .slice lg gl.length lc] 73) :: .obj m (mapO (os.map Ob.en) last) :: T) := hM.bring 4 rfl rfl
     replace hM : Mg w0 w8 (.obj m (mapO (os.map Ob.en) last) :: .row 96 2 (.slice sg gs.length sc) gs.length (gapC gs) :: .row 96 2 (.slice lg gl.length lc) gl.length (gapC gl) :: .obj g6 (.cells #[.int .i64 (((o4.p : Nat) : Int)), .slice (some ⟨o4.g, 0, none⟩) o4.ws.length o4.c] 79) :: .obj h (.cells #[.map (some m), .int .i64 (((last : Nat) : Int)), .int .i64 (((ss : Nat) : Int)), .slice sg gs.length sc, .int .i64 (((ls : Nat) : Int)), .slice lg gl.length lc] 73) :: T) := hM.bring 4 rfl rfl
     replace hM : Mg w0 w8 (.obj h (.cells #[.map (some m), .int .i64 (((last : Nat) : Int)), .int .i64 (((ss : Nat) : Int)), .slice sg gs.length sc, .int .i64 (((ls : Nat) : Int)), .slice lg gl.length lc] 73) :: .obj m (mapO (os.map Ob.en) last) :: .row 96 2 (.slice sg gs.length sc) gs.length (gapC gs) :: .row 96 2 (.slice lg gl.length lc) gl.length (gapC gl) :: .obj g6 (.cells #[.int .i64 (((o4.p : Nat) : Int)), .slice (some ⟨o4.g, 0, none⟩) o4.ws.length o4.c] 79) :: T) := hM.bring 4 rfl rfl
     replace hM : Mg w0 w8 (.obj h (.cells #[.map (some m), .int .i64 (((last : Nat) : Int)), .int .i64 (((ss : Nat) : Int)), .slice sg gs.length sc, .int .i64 (((ls : Nat) : Int)), .slice lg gl.length lc] 73) :: .obj m (mapO (os.map Ob.en) last) :: .row 96 2 (.slice sg gs.length sc) gs.length (gapC gs) :: .row 96 2 (.slice lg gl.length lc) gl.length (gapC gl) :: T) := by
       have h9 := hM.sub (.cons_cons _ (.cons_cons _ (.cons_cons _ (.cons_cons _ (.cons _ (.refl _))))))
       exact h9
     exact ⟨by rw [hb10, hb3]; rfl, hM⟩
   · have hb10' := ne_of_beq_false hb10
     refine seq_do (v := .bool false) hA rfl rfl rfl (does_bin rfl rfl (fun w => (bin_eql w).trans (by rw [hb10]))) ?_
     intro a hA
     refine seq_do hA rfl rfl rfl (does_move rfl) ?_
     intro a hA
     refine seq_do hA rfl rfl rfl (does_move rfl) ?_
     intro a hA
     refine seq_do (v := .bool true) hA rfl rfl rfl (does_pick rfl rfl rfl rfl) ?_
     intro a hA
     refine seq_do hA rfl rfl rfl (does_assign rfl) ?_
     intro a hA
     refine seq_end ?_
     refine hK9 _ _ ?_
     refine wp_ret ?_
     refine hret _ _ ?_
     refine ends (v := .bool true) hA rfl (.cons (res_tmp rfl) .nil) rfl ?_
     replace hM : Mg w0 w8 (.row 96 2 (.slice lg gl.length lc) gl.length (gapC gl) :: .obj g6 (.cells #[.int .i64 (((o4.p : Nat) : Int)), .slice (some ⟨o4.g, 0, none⟩) o4.ws.length o4.c] 79) :: .obj h (.cells #[.map (some m), .int .i64 (((last : Nat) : Int)), .int .i64 (((ss : Nat) : Int)), .slice sg gs.length sc, .int .i64 (((ls : Nat) : Int)), .slice lg gl.length lc] 73) :: .obj m (mapO (os.map Ob.en) last) :: .row 96 2 (.slice sg gs.length sc) gs.length (gapC gs) :: T) := hM.bring 4 rfl rfl
     replace hM : Mg w0 w8 (.row 96 2 (.slice sg gs.length sc) gs.length (gapC gs) :: .row 96 2 (.slice lg gl.length lc) gl.length (gapC gl) :: .obj g6 (.cells #[.int .i64 (((o4.p : Nat) : Int)), .slice (some ⟨o4.g, 0, none⟩) o4.ws.length o4.c] 79) :: .obj h (.cells #[.map (some m), .int .i64 (((last : Nat) : Int)), .int .i64 (((ss : Nat) : Int)), .slice sg gs.length sc, .int .i64 (((ls : Nat) : Int)), .slice lg gl.length lc] 73) :: .obj m (mapO (os.map Ob.en) last) :: T) := hM.bring 4 rfl rfl
     replace hM : Mg w0 w8 (.obj m (mapO (os.map Ob.en) last) :: .row 96 2 (.slice sg gs.length sc) gs.length (gapC gs) :: .row 96 2 (.slice lg gl.length lc) gl.length (gapC gl) :: .obj g6 (.cells #[.int .i64 (((o4.p : Nat) : Int)), .slice (some ⟨o4.g, 0, none⟩) o4.ws.length o4.c] 79) :: .obj h (.cells #[.map (some m), .int .i64 (((last : Nat) : Int)), .int .i64 (((ss : Nat) : Int)), .slice sg gs.length sc, .int .i64 (((ls : Nat) : Int)), .slice lg gl.length lc] 73) :: T) := hM.bring 4 rfl rfl
     replace hM : Mg w0 w8 (.obj h (.cells #[.map (some m), .int .i64 (((last : Nat) : Int)), .int .i64 (((ss : Nat) : Int)), .slice sg gs.length sc, .int .i64 (((ls : Nat) : Int)), .slice lg gl.length lc] 73) :: .obj m (mapO (os.map Ob.en) last) :: .row 96 2 (.slice sg gs.length sc) gs.length (gapC gs) :: .row 96 2 (.slice lg gl.length lc) gl.length (gapC gl) :: .obj g6 (.cells #[.int .i64 (((o4.p : Nat) : Int)), .slice (some ⟨o4.g, 0, none⟩) o4.ws.length o4.c] 79) :: T) := hM.bring 4 rfl rfl
     replace hM : Mg w0 w8 (.obj h (.cells #[.map (some m), .int .i64 (((last : Nat) : Int)), .int .i64 (((ss : Nat) : Int)), .slice sg gs.length sc, .int .i64 (((ls : Nat) : Int)), .slice lg gl.length lc] 73) :: .obj m (mapO (os.map Ob.en) last) :: .row 96 2 (.slice sg gs.length sc) gs.length (gapC gs) :: .row 96 2 (.slice lg gl.length lc) gl.length (gapC gl) :: T) := by
       have h9 := hM.sub (.cons_cons _ (.cons_cons _ (.cons_cons _ (.cons_cons _ (.cons _ (.refl _))))))
       exact h9
     exact ⟨by rw [hb10, hb3]; rfl, hM⟩
 · have hn11 : atK x (os.map Ob.en) = none := by rw [atK_en, Option.isSome_eq_false_iff.1 hb3 |> Option.isNone_iff_eq_none.1]; rfl
   refine seq_do (v := .tuple #[.agg #[.int .i64 0, .slice none 0 0], .bool false]) hA rfl rfl rfl (m_lookN (zv := .agg #[.int .i64 0, .slice none 0 0]) hM Try.underlying67 Try.underlying3 (by kernel_rfl) rfl rfl 1 rfl hn11 rfl) ?_
   intro a hA
   refine seq_do hA rfl rfl rfl (does_move rfl) ?_
   intro a hA
   refine seq_do (v := .agg #[.int .i64 0, .slice none 0 0]) hA rfl rfl rfl (does_extract (vs := [.agg #[.int .i64 0, .slice none 0 0], .bool false]) rfl rfl) ?_
   intro a hA
   refine seq_do (v := .bool false) hA rfl rfl rfl (does_extract (vs := [.agg #[.int .i64 0, .slice none 0 0], .bool false]) rfl rfl) ?_
   intro a hA
   refine s_new (vs := [.int .i64 0, .slice none 0 0]) (t := 79) hA hM rfl rfl rfl (fun g => .pointer (some ⟨g, 0, none⟩)) (does_alloc (z := .agg #[.int .i64 0, .slice none 0 0]) (by kernel_rfl) rfl) (by decide) ?_
   intro g12 w13 hM a hA
   refine s_store (us := [.int .i64 0, .slice none 0 0]) (L' := (.obj g12 (.cells #[.int .i64 0, .slice none 0 0] 79) :: .obj h (.cells #[.map (some m), .int .i64 (((last : Nat) : Int)), .int .i64 (((ss : Nat) : Int)), .slice sg gs.length sc, .int .i64 (((ls : Nat) : Int)), .slice lg gl.length lc] 73) :: .obj m (mapO (os.map Ob.en) last) :: .row 96 2 (.slice sg gs.length sc) gs.length (gapC gs) :: .row 96 2 (.slice lg gl.length lc) gl.length (gapC gl) :: T)) hA hM rfl rfl (m_store rfl rfl rfl (by kernel_rfl) hM 0 rfl rfl rfl) 0 rfl rfl rfl ?_
   intro w14 hM
   refine seq_do hA rfl rfl rfl (does_assign rfl) ?_
   intro a hA
   refine seq_end ?_
   refine hK2 _ _ ?_
   refine wp_seq_k (fun K15 hK15 => ?_)
   refine wp_region_lit ?_
   refine seq_do hA rfl rfl rfl (does_move rfl) ?_
   intro a hA
   rcases Bool.eq_false_or_eq_true ((x == 0)) with hb16 | hb16
   · have hb16' := eq_of_beq hb16
     refine seq_do (v := .bool true) hA rfl rfl rfl (does_bin rfl rfl (fun w => (bin_eql w).trans (by rw [hb16]))) ?_
     intro a hA
     refine seq_do hA rfl rfl rfl (does_move rfl) ?_
     intro a hA
     refine seq_skip hA rfl rfl rfl ?_
     intro a hA
     refine seq_do (v := .bool true) hA rfl rfl rfl (does_pick rfl rfl rfl rfl) ?_
     intro a hA
     refine seq_do hA rfl rfl rfl (does_assign rfl) ?_
     intro a hA
     refine seq_end ?_
     refine hK15 _ _ ?_
     refine wp_ret ?_
     refine hret _ _ ?_
     refine ends (v := .bool true) hA rfl (.cons (res_tmp rfl) .nil) rfl ?_
     replace hM : Mg w0 w14 (.row 96 2 (.slice lg gl.length lc) gl.length (gapC gl) :: .obj g12 (.cells #[.int .i64 0, .slice none 0 0] 79) :: .obj h (.cells #[.map (some m), .int .i64 (((last : Nat) : Int)), .int .i64 (((ss : Nat) : Int)), .slice sg gs.length sc, .int .i64 (((ls : Nat) : Int)), .slice lg gl.length lc] 73) :: .obj m (mapO (os.map Ob.en) last) :: .row 96 2 (.slice sg gs.length sc) gs.length (gapC gs) :: T) := hM.bring 4 rfl rfl
     replace hM : Mg w0 w14 (.row 96 2 (.slice sg gs.length sc) gs.length (gapC gs) :: .row 96 2 (.slice lg gl.length lc) gl.length (gapC gl) :: .obj g12 (.cells #[.int .i64 0, .slice none 0 0] 79) :: .obj h (.cells #[.map (some m), .int .i64 (((last : Nat) : Int)), .int .i64 (((ss : Nat) : Int)), .slice sg gs.length sc, .int .i64 (((ls : Nat) : Int)), .slice lg gl.length lc] 73) :: .obj m (mapO (os.map Ob.en) last) :: T) := hM.bring 4 rfl rfl
     replace hM : Mg w0 w14 (.obj m (mapO (os.map Ob.en) last) :: .row 96 2 (.slice sg gs.length sc) gs.length (gapC gs) :: .row 96 2 (.slice lg gl.length lc) gl.length (gapC gl) :: .obj g12 (.cells #[.int .i64 0, .slice none 0 0] 79) :: .obj h (.cells #[.map (some m), .int .i64 (((last : Nat) : Int)), .int .i64 (((ss : Nat) : Int)), .slice sg gs.length sc, .int .i64 (((ls : Nat) : Int)), .slice lg gl.length lc] 73) :: T) := hM.bring 4 rfl rfl
     replace hM : Mg w0 w14 (.obj h (.cells #[.map (some m), .int .i64 (((last : Nat) : Int)), .int .i64 (((ss : Nat) : Int)), .slice sg gs.length sc, .int .i64 (((ls : Nat) : Int)), .slice lg gl.length lc] 73) :: .obj m (mapO (os.map Ob.en) last) :: .row 96 2 (.slice sg gs.length sc) gs.length (gapC gs) :: .row 96 2 (.slice lg gl.length lc) gl.length (gapC gl) :: .obj g12 (.cells #[.int .i64 0, .slice none 0 0] 79) :: T) := hM.bring 4 rfl rfl
     replace hM : Mg w0 w14 (.obj h (.cells #[.map (some m), .int .i64 (((last : Nat) : Int)), .int .i64 (((ss : Nat) : Int)), .slice sg gs.length sc, .int .i64 (((ls : Nat) : Int)), .slice lg gl.length lc] 73) :: .obj m (mapO (os.map Ob.en) last) :: .row 96 2 (.slice sg gs.length sc) gs.length (gapC gs) :: .row 96 2 (.slice lg gl.length lc) gl.length (gapC gl) :: T) := by
       have h9 := hM.sub (.cons_cons _ (.cons_cons _ (.cons_cons _ (.cons_cons _ (.cons _ (.refl _))))))
       exact h9
     exact ⟨by rw [hb16, hb3]; rfl, hM⟩
   · have hb16' := ne_of_beq_false hb16
     refine seq_do (v := .bool false) hA rfl rfl rfl (does_bin rfl rfl (fun w => (bin_eql w).trans (by rw [hb16]))) ?_
     intro a hA
     refine seq_do hA rfl rfl rfl (does_move rfl) ?_
     intro a hA
     refine seq_do hA rfl rfl rfl (does_move rfl) ?_
     intro a hA
     refine seq_do (v := .bool false) hA rfl rfl rfl (does_pick rfl rfl rfl rfl) ?_
     intro a hA
     refine seq_do hA rfl rfl rfl (does_assign rfl) ?_
     intro a hA
     refine seq_end ?_
     refine hK15 _ _ ?_
     refine wp_ret ?_
     refine hret _ _ ?_
     refine ends (v := .bool false) hA rfl (.cons (res_tmp rfl) .nil) rfl ?_
     replace hM : Mg w0 w14 (.row 96 2 (.slice lg gl.length lc) gl.length (gapC gl) :: .obj g12 (.cells #[.int .i64 0, .slice none 0 0] 79) :: .obj h (.cells #[.map (some m), .int .i64 (((last : Nat) : Int)), .int .i64 (((ss : Nat) : Int)), .slice sg gs.length sc, .int .i64 (((ls : Nat) : Int)), .slice lg gl.length lc] 73) :: .obj m (mapO (os.map Ob.en) last) :: .row 96 2 (.slice sg gs.length sc) gs.length (gapC gs) :: T) := hM.bring 4 rfl rfl
     replace hM : Mg w0 w14 (.row 96 2 (.slice sg gs.length sc) gs.length (gapC gs) :: .row 96 2 (.slice lg gl.length lc) gl.length (gapC gl) :: .obj g12 (.cells #[.int .i64 0, .slice none 0 0] 79) :: .obj h (.cells #[.map (some m), .int .i64 (((last : Nat) : Int)), .int .i64 (((ss : Nat) : Int)), .slice sg gs.length sc, .int .i64 (((ls : Nat) : Int)), .slice lg gl.length lc] 73) :: .obj m (mapO (os.map Ob.en) last) :: T) := hM.bring 4 rfl rfl
     replace hM : Mg w0 w14 (.obj m (mapO (os.map Ob.en) last) :: .row 96 2 (.slice sg gs.length sc) gs.length (gapC gs) :: .row 96 2 (.slice lg gl.length lc) gl.length (gapC gl) :: .obj g12 (.cells #[.int .i64 0, .slice none 0 0] 79) :: .obj h (.cells #[.map (some m), .int .i64 (((last : Nat) : Int)), .int .i64 (((ss : Nat) : Int)), .slice sg gs.length sc, .int .i64 (((ls : Nat) : Int)), .slice lg gl.length lc] 73) :: T) := hM.bring 4 rfl rfl
     replace hM : Mg w0 w14 (.obj h (.cells #[.map (some m), .int .i64 (((last : Nat) : Int)), .int .i64 (((ss : Nat) : Int)), .slice sg gs.length sc, .int .i64 (((ls : Nat) : Int)), .slice lg gl.length lc] 73) :: .obj m (mapO (os.map Ob.en) last) :: .row 96 2 (.slice sg gs.length sc) gs.length (gapC gs) :: .row 96 2 (.slice lg gl.length lc) gl.length (gapC gl) :: .obj g12 (.cells #[.int .i64 0, .slice none 0 0] 79) :: T) := hM.bring 4 rfl rfl
     replace hM : Mg w0 w14 (.obj h (.cells #[.map (some m), .int .i64 (((last : Nat) : Int)), .int .i64 (((ss : Nat) : Int)), .slice sg gs.length sc, .int .i64 (((ls : Nat) : Int)), .slice lg gl.length lc] 73) :: .obj m (mapO (os.map Ob.en) last) :: .row 96 2 (.slice sg gs.length sc) gs.length (gapC gs) :: .row 96 2 (.slice lg gl.length lc) gl.length (gapC gl) :: T) := by
       have h9 := hM.sub (.cons_cons _ (.cons_cons _ (.cons_cons _ (.cons_cons _ (.cons _ (.refl _))))))
       exact h9
     exact ⟨by rw [hb16, hb3]; rfl, hM⟩
theorem find_hit {w0 w : World} {x : Int} {h m last ss ls sc lc : Nat} {sg lg : Option Addr} {gs gl : List (Nat × Nat)} {os : List Ob} {T : List Ck} {o : Ob} (hx : fO x os = some o) (hM0 : Mg w0 w (.obj h (.cells #[.map (some m), .int .i64 (((last : Nat) : Int)), .int .i64 (((ss : Nat) : Int)), .slice sg gs.length sc, .int .i64 (((ls : Nat) : Int)), .slice lg gl.length lc] 73) :: .obj m (mapO (os.map Ob.en) last) :: .row 96 2 (.slice sg gs.length sc) gs.length (gapC gs) :: .row 96 2 (.slice lg gl.length lc) gl.length (gapC gl) :: T)) : Calls Try.prog 31 #[.pointer (some ⟨h, 0, none⟩), .int .i64 x] w fun e w' => e = .returned (.tuple #[.agg #[.int .i64 ((o.p : Nat) : Int), o.sl], .int .i64 0]) ∧ Mg w0 w' (.obj h (.cells #[.map (some m), .int .i64 (((last : Nat) : Int)), .int .i64 (((ss : Nat) : Int)), .slice sg gs.length sc, .int .i64 (((ls : Nat) : Int)), .slice lg gl.length lc] 73) :: .obj m (mapO (os.map Ob.en) last) :: .row 96 2 (.slice sg gs.length sc) gs.length (gapC gs) :: .row 96 2 (.slice lg gl.length lc) gl.length (gapC gl) :: T) := by
 have hxs : (fO x os).isSome = true := by rw [hx]; rfl
 have hM : Mg w0 w (.obj h (.cells #[.map (some m), .int .i64 (((last : Nat) : Int)), .int .i64 (((ss : Nat) : Int)), .slice sg gs.length sc, .int .i64 (((ls : Nat) : Int)), .slice lg gl.length lc] 73) :: .obj m (mapO (os.map Ob.en) last) :: .row 96 2 (.slice sg gs.length sc) gs.length (gapC gs) :: .row 96 2 (.slice lg gl.length lc) gl.length (gapC gl) :: T) := hM0
 refine walk_of (l := [(0, .pointer (some ⟨h, 0, none⟩)), (1, .int .i64 x)]) Try.func31 rfl Try.ntmps31 rfl rfl ?_
 intro Q hret hnorm hP a hA
 refine wp_seq_k (fun K1 hK1 => ?_)
 refine wp_region_lit ?_
 refine s_new (vs := [.int .i64 0, .slice none 0 0]) (t := 79) hA hM rfl rfl rfl (fun g => .pointer (some ⟨g, 0, none⟩)) (does_alloc (z := .agg #[.int .i64 0, .slice none 0 0]) (by kernel_rfl) rfl) (by decide) ?_
 intro g2 w3 hM a hA
 refine seq_do hA rfl rfl rfl (does_assign rfl) ?_
 intro a hA
 refine seq_end ?_
 refine hK1 _ _ ?_
 refine wp_seq_k (fun K4 hK4 => ?_)
 refine wp_seq_k (fun K5 hK5 => ?_)
 refine wp_region_lit ?_
 refine seq_do hA rfl rfl rfl (does_move rfl) ?_
 intro a hA
 refine seq_do (v := .bool false) hA rfl rfl rfl (does_bin rfl rfl (bin_nilN Try.underlying24)) ?_
 intro a hA
 refine seq_end ?_
 refine hK5 _ _ ?_
 refine wp_cond_false (hA.ev rfl) ?_
 refine wp_skip ?_
 refine hK4 _ _ ?_
 refine wp_seq_k (fun K6 hK6 => ?_)
 refine wp_region_lit ?_
 refine seq_do hA rfl rfl rfl (does_move rfl) ?_
 intro a hA
 refine seq_do hA rfl rfl rfl (does_nilq rfl) ?_
 intro a hA
 refine seq_do (v := .pointer (some ⟨h, 0, none⟩)) hA rfl rfl rfl (does_field HbE_fld_73_0 rfl rfl) ?_
 intro a hA
 refine seq_do hA rfl rfl rfl (m_load1 hM HbE_is1_67 rfl 1 rfl rfl) ?_
 intro a hA
 refine seq_do hA rfl rfl rfl (does_move rfl) ?_
 intro a hA
 have hxk : atK x (os.map Ob.en) = some o.en := by rw [atK_en, hx]; rfl
 refine seq_do (v := .tuple #[.agg #[.int .i64 (((o.p : Nat) : Int)), .slice (some ⟨o.g, 0, none⟩) o.ws.length o.c], .bool true]) hA rfl rfl rfl (m_lookY hM Try.underlying67 Try.underlying3 rfl rfl 2 rfl hxk rfl) ?_
 intro a hA
 refine seq_do hA rfl rfl rfl (does_move rfl) ?_
 intro a hA
 refine seq_do (v := .agg #[.int .i64 (((o.p : Nat) : Int)), .slice (some ⟨o.g, 0, none⟩) o.ws.length o.c]) hA rfl rfl rfl (does_extract (vs := [.agg #[.int .i64 (((o.p : Nat) : Int)), .slice (some ⟨o.g, 0, none⟩) o.ws.length o.c], .bool true]) rfl rfl) ?_
 intro a hA
 refine seq_do (v := .bool true) hA rfl rfl rfl (does_extract (vs := [.agg #[.int .i64 (((o.p : Nat) : Int)), .slice (some ⟨o.g, 0, none⟩) o.ws.length o.c], .bool true]) rfl rfl) ?_
 intro a hA
 refine s_new (vs := [.int .i64 0, .slice none 0 0]) (t := 79) hA hM rfl rfl rfl (fun g => .pointer (some ⟨g, 0, none⟩)) (does_alloc (z := .agg #[.int .i64 0, .slice none 0 0]) (by kernel_rfl) rfl) (by decide) ?_
 intro g9 w10 hM a hA
 refine s_store (us := [.int .i64 (((o.p : Nat) : Int)), .slice (some ⟨o.g, 0, none⟩) o.ws.length o.c]) (L' := (.obj g9 (.cells #[.int .i64 (((o.p : Nat) : Int)), .slice (some ⟨o.g, 0, none⟩) o.ws.length o.c] 79) :: .obj g2 (.cells #[.int .i64 0, .slice none 0 0] 79) :: .obj h (.cells #[.map (some m), .int .i64 (((last : Nat) : Int)), .int .i64 (((ss : Nat) : Int)), .slice sg gs.length sc, .int .i64 (((ls : Nat) : Int)), .slice lg gl.length lc] 73) :: .obj m (mapO (os.map Ob.en) last) :: .row 96 2 (.slice sg gs.length sc) gs.length (gapC gs) :: .row 96 2 (.slice lg gl.length lc) gl.length (gapC gl) :: T)) hA hM rfl rfl (m_store rfl rfl rfl (by kernel_rfl) hM 0 rfl rfl rfl) 0 rfl rfl rfl ?_
 intro w11 hM
 refine seq_do hA rfl rfl rfl (does_assign rfl) ?_
 intro a hA
 refine seq_end ?_
 refine hK6 _ _ ?_
 refine wp_seq_k (fun K12 hK12 => ?_)
 refine wp_seq_k (fun K13 hK13 => ?_)
 refine wp_region_lit ?_
 refine seq_do hA rfl rfl rfl (does_move rfl) ?_
 intro a hA
 refine seq_do (v := .bool false) hA rfl rfl rfl (does_un rfl un_not) ?_
 intro a hA
 refine seq_end ?_
 refine hK13 _ _ ?_
 refine wp_cond_false (hA.ev rfl) ?_
 refine wp_skip ?_
 refine hK12 _ _ ?_
 refine wp_seq_k (fun K14 hK14 => ?_)
 refine wp_region_lit ?_
 refine seq_do hA rfl rfl rfl (m_loadS hM HbE_isS_79 rfl 0 rfl (cs := [.int .i64 (((o.p : Nat) : Int)), .slice (some ⟨o.g, 0, none⟩) o.ws.length o.c]) rfl rfl) ?_
 intro a hA
 refine s_store (us := [.int .i64 (((o.p : Nat) : Int)), .slice (some ⟨o.g, 0, none⟩) o.ws.length o.c]) (L' := (.obj g9 (.cells #[.int .i64 (((o.p : Nat) : Int)), .slice (some ⟨o.g, 0, none⟩) o.ws.length o.c] 79) :: .obj g2 (.cells #[.int .i64 (((o.p : Nat) : Int)), .slice (some ⟨o.g, 0, none⟩) o.ws.length o.c] 79) :: .obj h (.cells #[.map (some m), .int .i64 (((last : Nat) : Int)), .int .i64 (((ss : Nat) : Int)), .slice sg gs.length sc, .int .i64 (((ls : Nat) : Int)), .slice lg gl.length lc] 73) :: .obj m (mapO (os.map Ob.en) last) :: .row 96 2 (.slice sg gs.length sc) gs.length (gapC gs) :: .row 96 2 (.slice lg gl.length lc) gl.length (gapC gl) :: T)) hA hM rfl rfl (m_store rfl rfl rfl (by kernel_rfl) hM 1 rfl rfl rfl) 1 rfl rfl rfl ?_
 intro w15 hM
 refine seq_do hA rfl rfl rfl (does_assign rfl) ?_
 intro a hA
 refine seq_end ?_
 refine hK14 _ _ ?_
 refine wp_ret ?_
 refine hret _ _ ?_
 refine ends (v := .tuple #[.agg #[.int .i64 (((o.p : Nat) : Int)), .slice (some ⟨o.g, 0, none⟩) o.ws.length o.c], .int .i64 0]) hA rfl (.cons (res_cellS hM HbE_isS_79 rfl 1 rfl (cs := [.int .i64 (((o.p : Nat) : Int)), .slice (some ⟨o.g, 0, none⟩) o.ws.length o.c]) rfl rfl) (.cons (res_tmp rfl) .nil)) rfl ?_
 replace hM : Mg w0 w15 (.row 96 2 (.slice lg gl.length lc) gl.length (gapC gl) :: .obj g9 (.cells #[.int .i64 (((o.p : Nat) : Int)), .slice (some ⟨o.g, 0, none⟩) o.ws.length o.c] 79) :: .obj g2 (.cells #[.int .i64 (((o.p : Nat) : Int)), .slice (some ⟨o.g, 0, none⟩) o.ws.length o.c] 79) :: .obj h (.cells #[.map (some m), .int .i64 (((last : Nat) : Int)), .int .i64 (((ss : Nat) : Int)), .slice sg gs.length sc, .int .i64 (((ls : Nat) : Int)), .slice lg gl.length lc] 73) :: .obj m (mapO (os.map Ob.en) last) :: .row 96 2 (.slice sg gs.length sc) gs.length (gapC gs) :: T) := hM.bring 5 rfl rfl
 replace hM : Mg w0 w15 (.row 96 2 (.slice sg gs.length sc) gs.length (gapC gs) :: .row 96 2 (.slice lg gl.length lc) gl.length (gapC gl) :: .obj g9 (.cells #[.int .i64 (((o.p : Nat) : Int)), .slice (some ⟨o.g, 0, none⟩) o.ws.length o.c] 79) :: .obj g2 (.cells #[.int .i64 (((o.p : Nat) : Int)), .slice (some ⟨o.g, 0, none⟩) o.ws.length o.c] 79) :: .obj h (.cells #[.map (some m), .int .i64 (((last : Nat) : Int)), .int .i64 (((ss : Nat) : Int)), .slice sg gs.length sc, .int .i64 (((ls : Nat) : Int)), .slice lg gl.length lc] 73) :: .obj m (mapO (os.map Ob.en) last) :: T) := hM.bring 5 rfl rfl
 replace hM : Mg w0 w15 (.obj m (mapO (os.map Ob.en) last) :: .row 96 2 (.slice sg gs.length sc) gs.length (gapC gs) :: .row 96 2 (.slice lg gl.length lc) gl.length (gapC gl) :: .obj g9 (.cells #[.int .i64 (((o.p : Nat) : Int)), .slice (some ⟨o.g, 0, none⟩) o.ws.length o.c] 79) :: .obj g2 (.cells #[.int .i64 (((o.p : Nat) : Int)), .slice (some ⟨o.g, 0, none⟩) o.ws.length o.c] 79) :: .obj h (.cells #[.map (some m), .int .i64 (((last : Nat) : Int)), .int .i64 (((ss : Nat) : Int)), .slice sg gs.length sc, .int .i64 (((ls : Nat) : Int)), .slice lg gl.length lc] 73) :: T) := hM.bring 5 rfl rfl
 replace hM : Mg w0 w15 (.obj h (.cells #[.map (some m), .int .i64 (((last : Nat) : Int)), .int .i64 (((ss : Nat) : Int)), .slice sg gs.length sc, .int .i64 (((ls : Nat) : Int)), .slice lg gl.length lc] 73) :: .obj m (mapO (os.map Ob.en) last) :: .row 96 2 (.slice sg gs.length sc) gs.length (gapC gs) :: .row 96 2 (.slice lg gl.length lc) gl.length (gapC gl) :: .obj g9 (.cells #[.int .i64 (((o.p : Nat) : Int)), .slice (some ⟨o.g, 0, none⟩) o.ws.length o.c] 79) :: .obj g2 (.cells #[.int .i64 (((o.p : Nat) : Int)), .slice (some ⟨o.g, 0, none⟩) o.ws.length o.c] 79) :: T) := hM.bring 5 rfl rfl
 replace hM : Mg w0 w15 (.obj h (.cells #[.map (some m), .int .i64 (((last : Nat) : Int)), .int .i64 (((ss : Nat) : Int)), .slice sg gs.length sc, .int .i64 (((ls : Nat) : Int)), .slice lg gl.length lc] 73) :: .obj m (mapO (os.map Ob.en) last) :: .row 96 2 (.slice sg gs.length sc) gs.length (gapC gs) :: .row 96 2 (.slice lg gl.length lc) gl.length (gapC gl) :: T) := by
   have h9 := hM.sub (.cons_cons _ (.cons_cons _ (.cons_cons _ (.cons_cons _ (.cons _ (.cons _ (.refl _)))))))
   exact h9
 exact ⟨rfl, hM⟩
theorem find_miss {w0 w : World} {x : Int} {h m last ss ls sc lc : Nat} {sg lg : Option Addr} {gs gl : List (Nat × Nat)} {os : List Ob} {T : List Ck} (hx : fO x os = none) (hM0 : Mg w0 w (.obj h (.cells #[.map (some m), .int .i64 (((last : Nat) : Int)), .int .i64 (((ss : Nat) : Int)), .slice sg gs.length sc, .int .i64 (((ls : Nat) : Int)), .slice lg gl.length lc] 73) :: .obj m (mapO (os.map Ob.en) last) :: .row 96 2 (.slice sg gs.length sc) gs.length (gapC gs) :: .row 96 2 (.slice lg gl.length lc) gl.length (gapC gl) :: T)) : Calls Try.prog 31 #[.pointer (some ⟨h, 0, none⟩), .int .i64 x] w fun e w' => e = .returned (.tuple #[.agg #[.int .i64 0, .slice none 0 0], .int .i64 7]) ∧ Mg w0 w' (.obj h (.cells #[.map (some m), .int .i64 (((last : Nat) : Int)), .int .i64 (((ss : Nat) : Int)), .slice sg gs.length sc, .int .i64 (((ls : Nat) : Int)), .slice lg gl.length lc] 73) :: .obj m (mapO (os.map Ob.en) last) :: .row 96 2 (.slice sg gs.length sc) gs.length (gapC gs) :: .row 96 2 (.slice lg gl.length lc) gl.length (gapC gl) :: T) := by
 have hxs : (fO x os).isSome = false := by rw [hx]; rfl
 have hM : Mg w0 w (.obj h (.cells #[.map (some m), .int .i64 (((last : Nat) : Int)), .int .i64 (((ss : Nat) : Int)), .slice sg gs.length sc, .int .i64 (((ls : Nat) : Int)), .slice lg gl.length lc] 73) :: .obj m (mapO (os.map Ob.en) last) :: .row 96 2 (.slice sg gs.length sc) gs.length (gapC gs) :: .row 96 2 (.slice lg gl.length lc) gl.length (gapC gl) :: T) := hM0
 refine walk_of (l := [(0, .pointer (some ⟨h, 0, none⟩)), (1, .int .i64 x)]) Try.func31 rfl Try.ntmps31 rfl rfl ?_
 intro Q hret hnorm hP a hA
 refine wp_seq_k (fun K1 hK1 => ?_)
 refine wp_region_lit ?_
 refine s_new (vs := [.int .i64 0, .slice none 0 0]) (t := 79) hA hM rfl rfl rfl (fun g => .pointer (some ⟨g, 0, none⟩)) (does_alloc (z := .agg #[.int .i64 0, .slice none 0 0]) (by kernel_rfl) rfl) (by decide) ?_
 intro g2 w3 hM a hA
 refine seq_do hA rfl rfl rfl (does_assign rfl) ?_
 intro a hA
 refine seq_end ?_
 refine hK1 _ _ ?_
 refine wp_seq_k (fun K4 hK4 => ?_)
 refine wp_seq_k (fun K5 hK5 => ?_)
 refine wp_region_lit ?_
 refine seq_do hA rfl rfl rfl (does_move rfl) ?_
 intro a hA
 refine seq_do (v := .bool false) hA rfl rfl rfl (does_bin rfl rfl (bin_nilN Try.underlying24)) ?_
 intro a hA
 refine seq_end ?_
 refine hK5 _ _ ?_
 refine wp_cond_false (hA.ev rfl) ?_
 refine wp_skip ?_
 refine hK4 _ _ ?_
 refine wp_seq_k (fun K6 hK6 => ?_)
 refine wp_region_lit ?_
 refine seq_do hA rfl rfl rfl (does_move rfl) ?_
 intro a hA
 refine seq_do hA rfl rfl rfl (does_nilq rfl) ?_
 intro a hA
 refine seq_do (v := .pointer (some ⟨h, 0, none⟩)) hA rfl rfl rfl (does_field HbE_fld_73_0 rfl rfl) ?_
 intro a hA
 refine seq_do hA rfl rfl rfl (m_load1 hM HbE_is1_67 rfl 1 rfl rfl) ?_
 intro a hA
 refine seq_do hA rfl rfl rfl (does_move rfl) ?_
 intro a hA
 have hn7 : atK x (os.map Ob.en) = none := by rw [atK_en, Option.isSome_eq_false_iff.1 hxs |> Option.isNone_iff_eq_none.1]; rfl
 refine seq_do (v := .tuple #[.agg #[.int .i64 0, .slice none 0 0], .bool false]) hA rfl rfl rfl (m_lookN (zv := .agg #[.int .i64 0, .slice none 0 0]) hM Try.underlying67 Try.underlying3 (by kernel_rfl) rfl rfl 2 rfl hn7 rfl) ?_
 intro a hA
 refine seq_do hA rfl rfl rfl (does_move rfl) ?_
 intro a hA
 refine seq_do (v := .agg #[.int .i64 0, .slice none 0 0]) hA rfl rfl rfl (does_extract (vs := [.agg #[.int .i64 0, .slice none 0 0], .bool false]) rfl rfl) ?_
 intro a hA
 refine seq_do (v := .bool false) hA rfl rfl rfl (does_extract (vs := [.agg #[.int .i64 0, .slice none 0 0], .bool false]) rfl rfl) ?_
 intro a hA
 refine s_new (vs := [.int .i64 0, .slice none 0 0]) (t := 79) hA hM rfl rfl rfl (fun g => .pointer (some ⟨g, 0, none⟩)) (does_alloc (z := .agg #[.int .i64 0, .slice none 0 0]) (by kernel_rfl) rfl) (by decide) ?_
 intro g8 w9 hM a hA
 refine s_store (us := [.int .i64 0, .slice none 0 0]) (L' := (.obj g8 (.cells #[.int .i64 0, .slice none 0 0] 79) :: .obj g2 (.cells #[.int .i64 0, .slice none 0 0] 79) :: .obj h (.cells #[.map (some m), .int .i64 (((last : Nat) : Int)), .int .i64 (((ss : Nat) : Int)), .slice sg gs.length sc, .int .i64 (((ls : Nat) : Int)), .slice lg gl.length lc] 73) :: .obj m (mapO (os.map Ob.en) last) :: .row 96 2 (.slice sg gs.length sc) gs.length (gapC gs) :: .row 96 2 (.slice lg gl.length lc) gl.length (gapC gl) :: T)) hA hM rfl rfl (m_store rfl rfl rfl (by kernel_rfl) hM 0 rfl rfl rfl) 0 rfl rfl rfl ?_
 intro w10 hM
 refine seq_do hA rfl rfl rfl (does_assign rfl) ?_
 intro a hA
 refine seq_end ?_
 refine hK6 _ _ ?_
 refine wp_seq_k (fun K11 hK11 => ?_)
 refine wp_seq_k (fun K12 hK12 => ?_)
 refine wp_region_lit ?_
 refine seq_do hA rfl rfl rfl (does_move rfl) ?_
 intro a hA
 refine seq_do (v := .bool true) hA rfl rfl rfl (does_un rfl un_not) ?_
 intro a hA
 refine seq_end ?_
 refine hK12 _ _ ?_
 refine wp_cond_true (hA.ev rfl) ?_
 refine wp_seq_k (fun K13 hK13 => ?_)
 refine wp_region_lit ?_
 refine seq_do (v := .agg #[.int .i64 0, .slice none 0 0]) hA rfl rfl rfl (does_build rfl (fun w => by kernel_rfl)) ?_
 intro a hA
 refine s_store (us := [.int .i64 0, .slice none 0 0]) (L' := (.obj g8 (.cells #[.int .i64 0, .slice none 0 0] 79) :: .obj g2 (.cells #[.int .i64 0, .slice none 0 0] 79) :: .obj h (.cells #[.map (some m), .int .i64 (((last : Nat) : Int)), .int .i64 (((ss : Nat) : Int)), .slice sg gs.length sc, .int .i64 (((ls : Nat) : Int)), .slice lg gl.length lc] 73) :: .obj m (mapO (os.map Ob.en) last) :: .row 96 2 (.slice sg gs.length sc) gs.length (gapC gs) :: .row 96 2 (.slice lg gl.length lc) gl.length (gapC gl) :: T)) hA hM rfl rfl (m_store rfl rfl rfl (by kernel_rfl) hM 1 rfl rfl rfl) 1 rfl rfl rfl ?_
 intro w14 hM
 refine seq_do hA rfl rfl rfl (does_assign rfl) ?_
 intro a hA
 refine seq_end ?_
 refine hK13 _ _ ?_
 refine wp_ret ?_
 refine hret _ _ ?_
 refine ends (v := .tuple #[.agg #[.int .i64 0, .slice none 0 0], .int .i64 7]) hA rfl (.cons (res_cellS hM HbE_isS_79 rfl 1 rfl (cs := [.int .i64 0, .slice none 0 0]) rfl rfl) (.cons (res_tmp rfl) .nil)) rfl ?_
 replace hM : Mg w0 w14 (.row 96 2 (.slice lg gl.length lc) gl.length (gapC gl) :: .obj g8 (.cells #[.int .i64 0, .slice none 0 0] 79) :: .obj g2 (.cells #[.int .i64 0, .slice none 0 0] 79) :: .obj h (.cells #[.map (some m), .int .i64 (((last : Nat) : Int)), .int .i64 (((ss : Nat) : Int)), .slice sg gs.length sc, .int .i64 (((ls : Nat) : Int)), .slice lg gl.length lc] 73) :: .obj m (mapO (os.map Ob.en) last) :: .row 96 2 (.slice sg gs.length sc) gs.length (gapC gs) :: T) := hM.bring 5 rfl rfl
 replace hM : Mg w0 w14 (.row 96 2 (.slice sg gs.length sc) gs.length (gapC gs) :: .row 96 2 (.slice lg gl.length lc) gl.length (gapC gl) :: .obj g8 (.cells #[.int .i64 0, .slice none 0 0] 79) :: .obj g2 (.cells #[.int .i64 0, .slice none 0 0] 79) :: .obj h (.cells #[.map (some m), .int .i64 (((last : Nat) : Int)), .int .i64 (((ss : Nat) : Int)), .slice sg gs.length sc, .int .i64 (((ls : Nat) : Int)), .slice lg gl.length lc] 73) :: .obj m (mapO (os.map Ob.en) last) :: T) := hM.bring 5 rfl rfl
 replace hM : Mg w0 w14 (.obj m (mapO (os.map Ob.en) last) :: .row 96 2 (.slice sg gs.length sc) gs.length (gapC gs) :: .row 96 2 (.slice lg gl.length lc) gl.length (gapC gl) :: .obj g8 (.cells #[.int .i64 0, .slice none 0 0] 79) :: .obj g2 (.cells #[.int .i64 0, .slice none 0 0] 79) :: .obj h (.cells #[.map (some m), .int .i64 (((last : Nat) : Int)), .int .i64 (((ss : Nat) : Int)), .slice sg gs.length sc, .int .i64 (((ls : Nat) : Int)), .slice lg gl.length lc] 73) :: T) := hM.bring 5 rfl rfl
 replace hM : Mg w0 w14 (.obj h (.cells #[.map (some m), .int .i64 (((last : Nat) : Int)), .int .i64 (((ss : Nat) : Int)), .slice sg gs.length sc, .int .i64 (((ls : Nat) : Int)), .slice lg gl.length lc] 73) :: .obj m (mapO (os.map Ob.en) last) :: .row 96 2 (.slice sg gs.length sc) gs.length (gapC gs) :: .row 96 2 (.slice lg gl.length lc) gl.length (gapC gl) :: .obj g8 (.cells #[.int .i64 0, .slice none 0 0] 79) :: .obj g2 (.cells #[.int .i64 0, .slice none 0 0] 79) :: T) := hM.bring 5 rfl rfl
 replace hM : Mg w0 w14 (.obj h (.cells #[.map (some m), .int .i64 (((last : Nat) : Int)), .int .i64 (((ss : Nat) : Int)), .slice sg gs.length sc, .int .i64 (((ls : Nat) : Int)), .slice lg gl.length lc] 73) :: .obj m (mapO (os.map Ob.en) last) :: .row 96 2 (.slice sg gs.length sc) gs.length (gapC gs) :: .row 96 2 (.slice lg gl.length lc) gl.length (gapC gl) :: T) := by
   have h9 := hM.sub (.cons_cons _ (.cons_cons _ (.cons_cons _ (.cons_cons _ (.cons _ (.cons _ (.refl _)))))))
   exact h9
 exact ⟨rfl, hM⟩
end Go.Proofs.Ytcigofjajphmjaa
