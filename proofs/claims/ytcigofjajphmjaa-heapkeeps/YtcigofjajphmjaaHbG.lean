/- Walks of sweeps, of what is live, of what is moved down, and of what stands. -/
import Derived.Test.YtcigofjajphmjaaHbF
import Derived.Test.YtcigofjajphmjaaHs
namespace Go.Proofs.Ytcigofjajphmjaa
open Go.RowKit
set_option linter.unusedVariables false
set_option linter.unusedSimpArgs false
set_option maxRecDepth 100000
theorem HbG_is1_3 : Is1 Try.prog 3 := ⟨⟨_, Try.underlying3, rfl⟩, by kernel_rfl⟩
theorem HbG_is1_59 : Is1 Try.prog 59 := ⟨⟨_, Try.underlying59, rfl⟩, by kernel_rfl⟩
theorem HbG_is1_67 : Is1 Try.prog 67 := ⟨⟨_, Try.underlying67, rfl⟩, by kernel_rfl⟩
theorem HbG_fld_73_0 : FieldAt Try.prog 73 0 0 := ⟨_, _, Try.underlying73, rfl, rfl, by kernel_rfl⟩
theorem HbG_fld_79_0 : FieldAt Try.prog 79 0 0 := ⟨_, _, Try.underlying79, rfl, rfl, by kernel_rfl⟩
theorem HbG_fld_79_1 : FieldAt Try.prog 79 1 1 := ⟨_, _, Try.underlying79, rfl, rfl, by kernel_rfl⟩
theorem HbG_isS_79 : IsS Try.prog 79 2 := ⟨⟨_, Try.underlying79⟩, by kernel_rfl⟩
theorem sweep_any {w0 w : World} {h m last ss ls sc lc : Nat} {sg lg : Option Addr} {gs gl : List (Nat × Nat)} {os : List Ob} {T : List Ck} {ws : List Int} {fm : Nat} (hx : Hx os last) (hol : os.length ≤ 1000000) (hcl : ∀ o ∈ os, o.ws.length ≤ 1000000) (hsw : sumW os ≤ 1000000000) (hM0 : Mg w0 w (.obj h (.cells #[.map (some m), .int .i64 (((last : Nat) : Int)), .int .i64 (((ss : Nat) : Int)), .slice sg gs.length sc, .int .i64 (((ls : Nat) : Int)), .slice lg gl.length lc] 73) :: .obj m (mapO (os.map Ob.en) last) :: .row 96 2 (.slice sg gs.length sc) gs.length (gapC gs) :: .row 96 2 (.slice lg gl.length lc) gl.length (gapC gl) :: .obj fm (mapO (mkE 0 ws) ws.length) :: T)) : Calls Try.prog 35 #[.pointer (some ⟨h, 0, none⟩), .map (some fm)] w fun e w' => e = .returned (.int .i64 ((sumW (went ws os) : Nat) : Int)) ∧ Mg w0 w' (.obj h (.cells #[.map (some m), .int .i64 (((last : Nat) : Int)), .int .i64 (((ss : Nat) : Int)), .slice sg gs.length sc, .int .i64 (((ls : Nat) : Int)), .slice lg gl.length lc] 73) :: .obj m (mapO ((stay ws os).map Ob.en) last) :: .row 96 2 (.slice sg gs.length sc) gs.length (gapC gs) :: .row 96 2 (.slice lg gl.length lc) gl.length (gapC gl) :: .obj fm (mapO (mkE 0 ws) ws.length) :: T) := by
 have hM : Mg w0 w (.obj h (.cells #[.map (some m), .int .i64 (((last : Nat) : Int)), .int .i64 (((ss : Nat) : Int)), .slice sg gs.length sc, .int .i64 (((ls : Nat) : Int)), .slice lg gl.length lc] 73) :: .obj m (mapO (os.map Ob.en) last) :: .row 96 2 (.slice sg gs.length sc) gs.length (gapC gs) :: .row 96 2 (.slice lg gl.length lc) gl.length (gapC gl) :: .obj fm (mapO (mkE 0 ws) ws.length) :: T) := hM0
 refine walk_of (l := [(0, .pointer (some ⟨h, 0, none⟩)), (1, .map (some fm))]) Try.func35 rfl Try.ntmps35 rfl rfl ?_
 intro Q hret hnorm hP a hA
 refine wp_seq_k (fun K1 hK1 => ?_)
 refine wp_region_lit ?_
 refine seq_do hA rfl rfl rfl (does_assign rfl) ?_
 intro a hA
 refine seq_end ?_
 refine hK1 _ _ ?_
 refine wp_seq_k (fun K2 hK2 => ?_)
 refine wp_region_lit ?_
 refine seq_do hA rfl rfl rfl (does_assign rfl) ?_
 intro a hA
 refine seq_end ?_
 refine hK2 _ _ ?_
 refine wp_seq_k (fun K3 hK3 => ?_)
 refine wp_seq_k (fun K4 hK4 => ?_)
 refine wp_region_lit ?_
 refine seq_do hA rfl rfl rfl (does_move rfl) ?_
 intro a hA
 refine seq_do hA rfl rfl rfl (does_nilq rfl) ?_
 intro a hA
 refine seq_do (v := .pointer (some ⟨h, 0, none⟩)) hA rfl rfl rfl (does_field HbG_fld_73_0 rfl rfl) ?_
 intro a hA
 refine seq_do hA rfl rfl rfl (m_load1 hM HbG_is1_67 rfl 0 rfl rfl) ?_
 intro a hA
 refine s_rangeM hA hM rfl Try.underlying67 rfl 1 rfl rfl rfl rfl ?_
 intro r5 w6 hM a hA
 replace hM : Mg w0 w6 (.obj r5 (.mapIter (some m) last ([]).toArray last) :: .obj h (.cells #[.map (some m), .int .i64 (((last : Nat) : Int)), .int .i64 (((ss : Nat) : Int)), .slice sg gs.length sc, .int .i64 (((ls : Nat) : Int)), .slice lg gl.length lc] 73) :: .obj m (mapO (os.map Ob.en) last) :: .row 96 2 (.slice sg gs.length sc) gs.length (gapC gs) :: .row 96 2 (.slice lg gl.length lc) gl.length (gapC gl) :: .obj fm (mapO (mkE 0 ws) ws.length) :: T) := hM
 refine seq_end ?_
 refine hK4 _ _ ?_
 refine wp_block ?_
 replace hM : Mg w0 w6 (.obj fm (mapO (mkE 0 ws) ws.length) :: .obj r5 (.mapIter (some m) last ([]).toArray last) :: .obj h (.cells #[.map (some m), .int .i64 (((last : Nat) : Int)), .int .i64 (((ss : Nat) : Int)), .slice sg gs.length sc, .int .i64 (((ls : Nat) : Int)), .slice lg gl.length lc] 73) :: .obj m (mapO (os.map Ob.en) last) :: .row 96 2 (.slice sg gs.length sc) gs.length (gapC gs) :: .row 96 2 (.slice lg gl.length lc) gl.length (gapC gl) :: T) := hM.bring 5 rfl rfl
 replace hM : Mg w0 w6 (.row 96 2 (.slice lg gl.length lc) gl.length (gapC gl) :: .obj fm (mapO (mkE 0 ws) ws.length) :: .obj r5 (.mapIter (some m) last ([]).toArray last) :: .obj h (.cells #[.map (some m), .int .i64 (((last : Nat) : Int)), .int .i64 (((ss : Nat) : Int)), .slice sg gs.length sc, .int .i64 (((ls : Nat) : Int)), .slice lg gl.length lc] 73) :: .obj m (mapO (os.map Ob.en) last) :: .row 96 2 (.slice sg gs.length sc) gs.length (gapC gs) :: T) := hM.bring 5 rfl rfl
 replace hM : Mg w0 w6 (.row 96 2 (.slice sg gs.length sc) gs.length (gapC gs) :: .row 96 2 (.slice lg gl.length lc) gl.length (gapC gl) :: .obj fm (mapO (mkE 0 ws) ws.length) :: .obj r5 (.mapIter (some m) last ([]).toArray last) :: .obj h (.cells #[.map (some m), .int .i64 (((last : Nat) : Int)), .int .i64 (((ss : Nat) : Int)), .slice sg gs.length sc, .int .i64 (((ls : Nat) : Int)), .slice lg gl.length lc] 73) :: .obj m (mapO (os.map Ob.en) last) :: T) := hM.bring 5 rfl rfl
 replace hM : Mg w0 w6 (.obj m (mapO (os.map Ob.en) last) :: .row 96 2 (.slice sg gs.length sc) gs.length (gapC gs) :: .row 96 2 (.slice lg gl.length lc) gl.length (gapC gl) :: .obj fm (mapO (mkE 0 ws) ws.length) :: .obj r5 (.mapIter (some m) last ([]).toArray last) :: .obj h (.cells #[.map (some m), .int .i64 (((last : Nat) : Int)), .int .i64 (((ss : Nat) : Int)), .slice sg gs.length sc, .int .i64 (((ls : Nat) : Int)), .slice lg gl.length lc] 73) :: T) := hM.bring 5 rfl rfl
 replace hM : Mg w0 w6 (.obj h (.cells #[.map (some m), .int .i64 (((last : Nat) : Int)), .int .i64 (((ss : Nat) : Int)), .slice sg gs.length sc, .int .i64 (((ls : Nat) : Int)), .slice lg gl.length lc] 73) :: .obj m (mapO (os.map Ob.en) last) :: .row 96 2 (.slice sg gs.length sc) gs.length (gapC gs) :: .row 96 2 (.slice lg gl.length lc) gl.length (gapC gl) :: .obj fm (mapO (mkE 0 ws) ws.length) :: .obj r5 (.mapIter (some m) last ([]).toArray last) :: T) := hM.bring 5 rfl rfl
 replace hM : Mg w0 w6 (.obj h (.cells #[.map (some m), .int .i64 (((last : Nat) : Int)), .int .i64 (((ss : Nat) : Int)), .slice sg gs.length sc, .int .i64 (((ls : Nat) : Int)), .slice lg gl.length lc] 73) :: .obj m (mapO ((swp ws [] os).map Ob.en) last) :: .row 96 2 (.slice sg gs.length sc) gs.length (gapC gs) :: .row 96 2 (.slice lg gl.length lc) gl.length (gapC gl) :: .obj fm (mapO (mkE 0 ws) ws.length) :: .obj r5 (.mapIter (some m) last ([]).toArray last) :: T) := by rw [swp_nil]; exact hM
 refine wp_loop_n (fun m_ a w1 => ∃ (seen : List Nat) (q : Nat), m_ = 1 + (unseen seen os).length ∧ (q = sumW (gone ws seen os)) ∧ Sl a 39 [(0, .pointer (some ⟨h, 0, none⟩)), (1, .map (some fm)), (4, .int .i64 0), (5, .int .i64 (((q : Nat) : Int))), (10, .pointer (some ⟨h, 0, none⟩)), (11, .pointer (some ⟨h, 0, none⟩)), (12, .pointer (some ⟨h, 0, none⟩)), (13, .map (some m)), (14, .pointer (some ⟨r5, 0, none⟩))] ∧ Mg w0 w1 (.obj h (.cells #[.map (some m), .int .i64 (((last : Nat) : Int)), .int .i64 (((ss : Nat) : Int)), .slice sg gs.length sc, .int .i64 (((ls : Nat) : Int)), .slice lg gl.length lc] 73) :: .obj m (mapO ((swp ws seen os).map Ob.en) last) :: .row 96 2 (.slice sg gs.length sc) gs.length (gapC gs) :: .row 96 2 (.slice lg gl.length lc) gl.length (gapC gl) :: .obj fm (mapO (mkE 0 ws) ws.length) :: .obj r5 (.mapIter (some m) last seen.toArray last) :: T)) _ ⟨[], 0, rfl, (by rw [gone_nil]; rfl), hA.keep _ ⟨rfl, rfl, rfl, rfl, rfl, rfl, rfl, rfl, rfl, trivial⟩, hM⟩ ?_
 clear hM hA
 rintro m_ a w7 ⟨seen, q, rfl, hinv9, hA, hM⟩ K8 hK8
 have hq := hinv9
 refine wp_seq_k (fun K10 hK10 => ?_)
 refine wp_region_lit ?_
 refine s_nextM (seen := seen) (L' := fun e11 => (.obj h (.cells #[.map (some m), .int .i64 (((last : Nat) : Int)), .int .i64 (((ss : Nat) : Int)), .slice sg gs.length sc, .int .i64 (((ls : Nat) : Int)), .slice lg gl.length lc] 73) :: .obj m (mapO ((swp ws seen os).map Ob.en) last) :: .row 96 2 (.slice sg gs.length sc) gs.length (gapC gs) :: .row 96 2 (.slice lg gl.length lc) gl.length (gapC gl) :: .obj fm (mapO (mkE 0 ws) ws.length) :: .obj r5 (.mapIter (some m) last ((seen ++ [e11.b])).toArray last) :: T)) hA hM rfl rfl 5 1 rfl rfl ((hx.sub (swp_sub ws seen os)).old) (Nat.le_refl _) rfl rfl rfl (fun _ => rfl) ?_ ?_
 · intro hz16 a hA
   rw [leftE_os] at hz16
   replace hz16 := List.map_eq_nil_iff.1 hz16
   refine seq_do (v := .bool false) hA rfl rfl rfl (does_extract (vs := [.bool false]) rfl rfl) ?_
   intro a hA
   refine seq_end ?_
   refine hK10 _ _ ?_
   refine wp_seq_k (fun K17 hK17 => ?_)
   refine wp_cond_false (hA.ev rfl) ?_
   refine wp_exit ?_
   refine hK3 _ _ ?_
   refine wp_seq_k (fun K18 hK18 => ?_)
   refine wp_region_lit ?_
   refine seq_do hA rfl rfl rfl (does_move rfl) ?_
   intro a hA
   refine seq_do hA rfl rfl rfl (does_assign rfl) ?_
   intro a hA
   refine seq_end ?_
   refine hK18 _ _ ?_
   refine wp_ret ?_
   refine hret _ _ ?_
   refine ends (v := .int .i64 (((q : Nat) : Int))) hA rfl (.cons (res_tmp rfl) .nil) rfl ?_
   replace hM : Mg w0 w7 (.obj fm (mapO (mkE 0 ws) ws.length) :: .obj h (.cells #[.map (some m), .int .i64 (((last : Nat) : Int)), .int .i64 (((ss : Nat) : Int)), .slice sg gs.length sc, .int .i64 (((ls : Nat) : Int)), .slice lg gl.length lc] 73) :: .obj m (mapO ((swp ws seen os).map Ob.en) last) :: .row 96 2 (.slice sg gs.length sc) gs.length (gapC gs) :: .row 96 2 (.slice lg gl.length lc) gl.length (gapC gl) :: .obj r5 (.mapIter (some m) last seen.toArray last) :: T) := hM.bring 4 rfl rfl
   replace hM : Mg w0 w7 (.row 96 2 (.slice lg gl.length lc) gl.length (gapC gl) :: .obj fm (mapO (mkE 0 ws) ws.length) :: .obj h (.cells #[.map (some m), .int .i64 (((last : Nat) : Int)), .int .i64 (((ss : Nat) : Int)), .slice sg gs.length sc, .int .i64 (((ls : Nat) : Int)), .slice lg gl.length lc] 73) :: .obj m (mapO ((swp ws seen os).map Ob.en) last) :: .row 96 2 (.slice sg gs.length sc) gs.length (gapC gs) :: .obj r5 (.mapIter (some m) last seen.toArray last) :: T) := hM.bring 4 rfl rfl
   replace hM : Mg w0 w7 (.row 96 2 (.slice sg gs.length sc) gs.length (gapC gs) :: .row 96 2 (.slice lg gl.length lc) gl.length (gapC gl) :: .obj fm (mapO (mkE 0 ws) ws.length) :: .obj h (.cells #[.map (some m), .int .i64 (((last : Nat) : Int)), .int .i64 (((ss : Nat) : Int)), .slice sg gs.length sc, .int .i64 (((ls : Nat) : Int)), .slice lg gl.length lc] 73) :: .obj m (mapO ((swp ws seen os).map Ob.en) last) :: .obj r5 (.mapIter (some m) last seen.toArray last) :: T) := hM.bring 4 rfl rfl
   replace hM : Mg w0 w7 (.obj m (mapO ((swp ws seen os).map Ob.en) last) :: .row 96 2 (.slice sg gs.length sc) gs.length (gapC gs) :: .row 96 2 (.slice lg gl.length lc) gl.length (gapC gl) :: .obj fm (mapO (mkE 0 ws) ws.length) :: .obj h (.cells #[.map (some m), .int .i64 (((last : Nat) : Int)), .int .i64 (((ss : Nat) : Int)), .slice sg gs.length sc, .int .i64 (((ls : Nat) : Int)), .slice lg gl.length lc] 73) :: .obj r5 (.mapIter (some m) last seen.toArray last) :: T) := hM.bring 4 rfl rfl
   replace hM : Mg w0 w7 (.obj h (.cells #[.map (some m), .int .i64 (((last : Nat) : Int)), .int .i64 (((ss : Nat) : Int)), .slice sg gs.length sc, .int .i64 (((ls : Nat) : Int)), .slice lg gl.length lc] 73) :: .obj m (mapO ((swp ws seen os).map Ob.en) last) :: .row 96 2 (.slice sg gs.length sc) gs.length (gapC gs) :: .row 96 2 (.slice lg gl.length lc) gl.length (gapC gl) :: .obj fm (mapO (mkE 0 ws) ws.length) :: .obj r5 (.mapIter (some m) last seen.toArray last) :: T) := hM.bring 4 rfl rfl
   replace hM : Mg w0 w7 (.obj h (.cells #[.map (some m), .int .i64 (((last : Nat) : Int)), .int .i64 (((ss : Nat) : Int)), .slice sg gs.length sc, .int .i64 (((ls : Nat) : Int)), .slice lg gl.length lc] 73) :: .obj m (mapO ((swp ws seen os).map Ob.en) last) :: .row 96 2 (.slice sg gs.length sc) gs.length (gapC gs) :: .row 96 2 (.slice lg gl.length lc) gl.length (gapC gl) :: .obj fm (mapO (mkE 0 ws) ws.length) :: T) := by
     have h9 := hM.sub (.cons_cons _ (.cons_cons _ (.cons_cons _ (.cons_cons _ (.cons_cons _ (.cons _ (.refl _)))))))
     exact h9
   rw [unseen_swp] at hz16
   rw [swp_end hz16] at hM
   exact ⟨by rw [hq, gone_end hz16], hM⟩
 · intro e11 he12 w13 hM a hA
   rw [leftE_os] at he12
   obtain ⟨o, ho, rfl⟩ := List.mem_map.1 he12
   replace hM : Mg w0 w13 (.obj h (.cells #[.map (some m), .int .i64 (((last : Nat) : Int)), .int .i64 (((ss : Nat) : Int)), .slice sg gs.length sc, .int .i64 (((ls : Nat) : Int)), .slice lg gl.length lc] 73) :: .obj m (mapO ((swp ws seen os).map Ob.en) last) :: .row 96 2 (.slice sg gs.length sc) gs.length (gapC gs) :: .row 96 2 (.slice lg gl.length lc) gl.length (gapC gl) :: .obj fm (mapO (mkE 0 ws) ws.length) :: .obj r5 (.mapIter (some m) last ((seen ++ [o.x - 1])).toArray last) :: T) := hM
   have homem : o ∈ swp ws seen os := (List.mem_filter.1 ho).1
   have ho2 : o ∈ unseen seen os := by rw [unseen_swp] at ho; exact ho
   have hoos := (List.mem_filter.1 ho2).1
   have hsw := sumW_sub (List.filter_sublist (p := fun q => decide (q.x = o.x)) (l := os))
   have hqb : q ≤ sumW os := by rw [hq]; exact sumW_sub List.filter_sublist
   have hol1 := hcl o hoos
   refine seq_do (v := .bool true) hA rfl rfl rfl (does_extract (vs := [.bool true, .int .i64 (((o.x : Nat) : Int)), .agg #[.int .i64 (((o.p : Nat) : Int)), .slice (some ⟨o.g, 0, none⟩) o.ws.length o.c]]) rfl rfl) ?_
   intro a hA
   refine seq_end ?_
   refine hK10 _ _ ?_
   refine wp_seq_k (fun K19 hK19 => ?_)
   refine wp_cond_true (hA.ev rfl) ?_
   refine wp_skip ?_
   refine hK19 _ _ ?_
   refine wp_block ?_
   refine wp_seq_k (fun K20 hK20 => ?_)
   refine wp_region_lit ?_
   refine seq_do (v := .tuple #[.int .i64 (((o.x : Nat) : Int)), .agg #[.int .i64 (((o.p : Nat) : Int)), .slice (some ⟨o.g, 0, none⟩) o.ws.length o.c]]) hA rfl rfl rfl (m_entry (e := o.en) (seen := seen) hM rfl 5 1 rfl rfl (List.mem_map.2 ⟨o, homem, rfl⟩) (hx.sub (swp_sub ws seen os)).nodup) ?_
   intro a hA
   refine seq_do (v := .int .i64 (((o.x : Nat) : Int))) hA rfl rfl rfl (does_extract (vs := [.int .i64 (((o.x : Nat) : Int)), .agg #[.int .i64 (((o.p : Nat) : Int)), .slice (some ⟨o.g, 0, none⟩) o.ws.length o.c]]) rfl rfl) ?_
   intro a hA
   refine seq_do (v := .agg #[.int .i64 (((o.p : Nat) : Int)), .slice (some ⟨o.g, 0, none⟩) o.ws.length o.c]) hA rfl rfl rfl (does_extract (vs := [.int .i64 (((o.x : Nat) : Int)), .agg #[.int .i64 (((o.p : Nat) : Int)), .slice (some ⟨o.g, 0, none⟩) o.ws.length o.c]]) rfl rfl) ?_
   intro a hA
   refine s_new (vs := [.int .i64 0, .slice none 0 0]) (t := 79) hA hM rfl rfl rfl (fun g => .pointer (some ⟨g, 0, none⟩)) (does_alloc (z := .agg #[.int .i64 0, .slice none 0 0]) (by kernel_rfl) rfl) (by decide) ?_
   intro g21 w22 hM a hA
   refine seq_do hA rfl rfl rfl (does_assign rfl) ?_
   intro a hA
   refine s_store (us := [.int .i64 (((o.p : Nat) : Int)), .slice (some ⟨o.g, 0, none⟩) o.ws.length o.c]) (L' := (.obj g21 (.cells #[.int .i64 (((o.p : Nat) : Int)), .slice (some ⟨o.g, 0, none⟩) o.ws.length o.c] 79) :: .obj h (.cells #[.map (some m), .int .i64 (((last : Nat) : Int)), .int .i64 (((ss : Nat) : Int)), .slice sg gs.length sc, .int .i64 (((ls : Nat) : Int)), .slice lg gl.length lc] 73) :: .obj m (mapO ((swp ws seen os).map Ob.en) last) :: .row 96 2 (.slice sg gs.length sc) gs.length (gapC gs) :: .row 96 2 (.slice lg gl.length lc) gl.length (gapC gl) :: .obj fm (mapO (mkE 0 ws) ws.length) :: .obj r5 (.mapIter (some m) last ((seen ++ [o.x - 1])).toArray last) :: T)) hA hM rfl rfl (m_store rfl rfl rfl (by kernel_rfl) hM 0 rfl rfl rfl) 0 rfl rfl rfl ?_
   intro w23 hM
   refine seq_end ?_
   refine hK20 _ _ ?_
   refine wp_seq_k (fun K24 hK24 => ?_)
   refine wp_region_lit ?_
   refine seq_do hA rfl rfl rfl (does_move rfl) ?_
   intro a hA
   refine seq_do hA rfl rfl rfl (does_move rfl) ?_
   intro a hA
   rcases Bool.eq_false_or_eq_true (decide (((o.x : Nat) : Int) ∈ ws)) with hb25 | hb25
   · obtain ⟨e26, he27, hv28⟩ := mkE_hit (i := 0) (of_decide_eq_true hb25)
     refine seq_do (v := .tuple #[.agg #[], .bool true]) hA rfl rfl rfl (m_lookY hM Try.underlying87 Try.underlying3 rfl rfl 5 rfl he27 (by rw [hv28]; rfl)) ?_
     intro a hA
     refine seq_do hA rfl rfl rfl (does_move rfl) ?_
     intro a hA
     refine seq_do (v := .agg #[]) hA rfl rfl rfl (does_extract (vs := [.agg #[], .bool true]) rfl rfl) ?_
     intro a hA
     refine seq_do (v := .bool true) hA rfl rfl rfl (does_extract (vs := [.agg #[], .bool true]) rfl rfl) ?_
     intro a hA
     refine s_new (vs := []) (t := 102) hA hM rfl rfl rfl (fun g => .pointer (some ⟨g, 0, none⟩)) (does_alloc (z := .agg #[]) (by kernel_rfl) rfl) (by decide) ?_
     intro g29 w30 hM a hA
     refine s_store (us := []) (L' := (.obj g29 (.cells #[] 102) :: .obj g21 (.cells #[.int .i64 (((o.p : Nat) : Int)), .slice (some ⟨o.g, 0, none⟩) o.ws.length o.c] 79) :: .obj h (.cells #[.map (some m), .int .i64 (((last : Nat) : Int)), .int .i64 (((ss : Nat) : Int)), .slice sg gs.length sc, .int .i64 (((ls : Nat) : Int)), .slice lg gl.length lc] 73) :: .obj m (mapO ((swp ws seen os).map Ob.en) last) :: .row 96 2 (.slice sg gs.length sc) gs.length (gapC gs) :: .row 96 2 (.slice lg gl.length lc) gl.length (gapC gl) :: .obj fm (mapO (mkE 0 ws) ws.length) :: .obj r5 (.mapIter (some m) last ((seen ++ [o.x - 1])).toArray last) :: T)) hA hM rfl rfl (m_store rfl rfl rfl (by kernel_rfl) hM 0 rfl rfl rfl) 0 rfl rfl rfl ?_
     intro w31 hM
     refine seq_do hA rfl rfl rfl (does_assign rfl) ?_
     intro a hA
     refine seq_end ?_
     refine hK24 _ _ ?_
     refine wp_seq_k (fun K32 hK32 => ?_)
     refine wp_region_lit ?_
     refine seq_do hA rfl rfl rfl (does_move rfl) ?_
     intro a hA
     refine seq_do (v := .bool false) hA rfl rfl rfl (does_un rfl un_not) ?_
     intro a hA
     refine seq_end ?_
     refine hK32 _ _ ?_
     refine wp_cond_false (hA.ev rfl) ?_
     refine wp_skip ?_
     replace hM : Mg w0 w31 (.obj r5 (.mapIter (some m) last ((seen ++ [o.x - 1])).toArray last) :: .obj g29 (.cells #[] 102) :: .obj g21 (.cells #[.int .i64 (((o.p : Nat) : Int)), .slice (some ⟨o.g, 0, none⟩) o.ws.length o.c] 79) :: .obj h (.cells #[.map (some m), .int .i64 (((last : Nat) : Int)), .int .i64 (((ss : Nat) : Int)), .slice sg gs.length sc, .int .i64 (((ls : Nat) : Int)), .slice lg gl.length lc] 73) :: .obj m (mapO ((swp ws seen os).map Ob.en) last) :: .row 96 2 (.slice sg gs.length sc) gs.length (gapC gs) :: .row 96 2 (.slice lg gl.length lc) gl.length (gapC gl) :: .obj fm (mapO (mkE 0 ws) ws.length) :: T) := hM.bring 7 rfl rfl
     replace hM : Mg w0 w31 (.obj fm (mapO (mkE 0 ws) ws.length) :: .obj r5 (.mapIter (some m) last ((seen ++ [o.x - 1])).toArray last) :: .obj g29 (.cells #[] 102) :: .obj g21 (.cells #[.int .i64 (((o.p : Nat) : Int)), .slice (some ⟨o.g, 0, none⟩) o.ws.length o.c] 79) :: .obj h (.cells #[.map (some m), .int .i64 (((last : Nat) : Int)), .int .i64 (((ss : Nat) : Int)), .slice sg gs.length sc, .int .i64 (((ls : Nat) : Int)), .slice lg gl.length lc] 73) :: .obj m (mapO ((swp ws seen os).map Ob.en) last) :: .row 96 2 (.slice sg gs.length sc) gs.length (gapC gs) :: .row 96 2 (.slice lg gl.length lc) gl.length (gapC gl) :: T) := hM.bring 7 rfl rfl
     replace hM : Mg w0 w31 (.row 96 2 (.slice lg gl.length lc) gl.length (gapC gl) :: .obj fm (mapO (mkE 0 ws) ws.length) :: .obj r5 (.mapIter (some m) last ((seen ++ [o.x - 1])).toArray last) :: .obj g29 (.cells #[] 102) :: .obj g21 (.cells #[.int .i64 (((o.p : Nat) : Int)), .slice (some ⟨o.g, 0, none⟩) o.ws.length o.c] 79) :: .obj h (.cells #[.map (some m), .int .i64 (((last : Nat) : Int)), .int .i64 (((ss : Nat) : Int)), .slice sg gs.length sc, .int .i64 (((ls : Nat) : Int)), .slice lg gl.length lc] 73) :: .obj m (mapO ((swp ws seen os).map Ob.en) last) :: .row 96 2 (.slice sg gs.length sc) gs.length (gapC gs) :: T) := hM.bring 7 rfl rfl
     replace hM : Mg w0 w31 (.row 96 2 (.slice sg gs.length sc) gs.length (gapC gs) :: .row 96 2 (.slice lg gl.length lc) gl.length (gapC gl) :: .obj fm (mapO (mkE 0 ws) ws.length) :: .obj r5 (.mapIter (some m) last ((seen ++ [o.x - 1])).toArray last) :: .obj g29 (.cells #[] 102) :: .obj g21 (.cells #[.int .i64 (((o.p : Nat) : Int)), .slice (some ⟨o.g, 0, none⟩) o.ws.length o.c] 79) :: .obj h (.cells #[.map (some m), .int .i64 (((last : Nat) : Int)), .int .i64 (((ss : Nat) : Int)), .slice sg gs.length sc, .int .i64 (((ls : Nat) : Int)), .slice lg gl.length lc] 73) :: .obj m (mapO ((swp ws seen os).map Ob.en) last) :: T) := hM.bring 7 rfl rfl
     replace hM : Mg w0 w31 (.obj m (mapO ((swp ws seen os).map Ob.en) last) :: .row 96 2 (.slice sg gs.length sc) gs.length (gapC gs) :: .row 96 2 (.slice lg gl.length lc) gl.length (gapC gl) :: .obj fm (mapO (mkE 0 ws) ws.length) :: .obj r5 (.mapIter (some m) last ((seen ++ [o.x - 1])).toArray last) :: .obj g29 (.cells #[] 102) :: .obj g21 (.cells #[.int .i64 (((o.p : Nat) : Int)), .slice (some ⟨o.g, 0, none⟩) o.ws.length o.c] 79) :: .obj h (.cells #[.map (some m), .int .i64 (((last : Nat) : Int)), .int .i64 (((ss : Nat) : Int)), .slice sg gs.length sc, .int .i64 (((ls : Nat) : Int)), .slice lg gl.length lc] 73) :: T) := hM.bring 7 rfl rfl
     replace hM : Mg w0 w31 (.obj h (.cells #[.map (some m), .int .i64 (((last : Nat) : Int)), .int .i64 (((ss : Nat) : Int)), .slice sg gs.length sc, .int .i64 (((ls : Nat) : Int)), .slice lg gl.length lc] 73) :: .obj m (mapO ((swp ws seen os).map Ob.en) last) :: .row 96 2 (.slice sg gs.length sc) gs.length (gapC gs) :: .row 96 2 (.slice lg gl.length lc) gl.length (gapC gl) :: .obj fm (mapO (mkE 0 ws) ws.length) :: .obj r5 (.mapIter (some m) last ((seen ++ [o.x - 1])).toArray last) :: .obj g29 (.cells #[] 102) :: .obj g21 (.cells #[.int .i64 (((o.p : Nat) : Int)), .slice (some ⟨o.g, 0, none⟩) o.ws.length o.c] 79) :: T) := hM.bring 7 rfl rfl
     replace hM : Mg w0 w31 (.obj h (.cells #[.map (some m), .int .i64 (((last : Nat) : Int)), .int .i64 (((ss : Nat) : Int)), .slice sg gs.length sc, .int .i64 (((ls : Nat) : Int)), .slice lg gl.length lc] 73) :: .obj m (mapO ((swp ws seen os).map Ob.en) last) :: .row 96 2 (.slice sg gs.length sc) gs.length (gapC gs) :: .row 96 2 (.slice lg gl.length lc) gl.length (gapC gl) :: .obj fm (mapO (mkE 0 ws) ws.length) :: .obj r5 (.mapIter (some m) last ((seen ++ [o.x - 1])).toArray last) :: T) := by
       have h9 := hM.sub (.cons_cons _ (.cons_cons _ (.cons_cons _ (.cons_cons _ (.cons_cons _ (.cons_cons _ (.cons _ (.cons _ (.refl _)))))))))
       exact h9
     replace hM : Mg w0 w31 (.obj h (.cells #[.map (some m), .int .i64 (((last : Nat) : Int)), .int .i64 (((ss : Nat) : Int)), .slice sg gs.length sc, .int .i64 (((ls : Nat) : Int)), .slice lg gl.length lc] 73) :: .obj m (mapO ((swp ws (seen ++ [o.x - 1]) os).map Ob.en) last) :: .row 96 2 (.slice sg gs.length sc) gs.length (gapC gs) :: .row 96 2 (.slice lg gl.length lc) gl.length (gapC gl) :: .obj fm (mapO (mkE 0 ws) ws.length) :: .obj r5 (.mapIter (some m) last ((seen ++ [o.x - 1])).toArray last) :: T) := by rw [swp_keep hx.lo ho2 (of_decide_eq_true hb25)]; exact hM
     refine hK8 _ _ _ (by have := unseen_less hx.lo ho2; omega) ⟨seen ++ [o.x - 1], q, rfl, (by rw [sum_keep hx.lo ho2 (of_decide_eq_true hb25)]; exact hq), hA.keep _ ⟨rfl, rfl, rfl, rfl, rfl, rfl, rfl, rfl, rfl, trivial⟩, hM⟩
   · refine seq_do (v := .tuple #[.agg #[], .bool false]) hA rfl rfl rfl (m_lookN (zv := .agg #[]) hM Try.underlying87 Try.underlying3 (by kernel_rfl) rfl rfl 5 rfl (mkE_miss (of_decide_eq_false hb25)) rfl) ?_
     intro a hA
     refine seq_do hA rfl rfl rfl (does_move rfl) ?_
     intro a hA
     refine seq_do (v := .agg #[]) hA rfl rfl rfl (does_extract (vs := [.agg #[], .bool false]) rfl rfl) ?_
     intro a hA
     refine seq_do (v := .bool false) hA rfl rfl rfl (does_extract (vs := [.agg #[], .bool false]) rfl rfl) ?_
     intro a hA
     refine s_new (vs := []) (t := 102) hA hM rfl rfl rfl (fun g => .pointer (some ⟨g, 0, none⟩)) (does_alloc (z := .agg #[]) (by kernel_rfl) rfl) (by decide) ?_
     intro g33 w34 hM a hA
     refine s_store (us := []) (L' := (.obj g33 (.cells #[] 102) :: .obj g21 (.cells #[.int .i64 (((o.p : Nat) : Int)), .slice (some ⟨o.g, 0, none⟩) o.ws.length o.c] 79) :: .obj h (.cells #[.map (some m), .int .i64 (((last : Nat) : Int)), .int .i64 (((ss : Nat) : Int)), .slice sg gs.length sc, .int .i64 (((ls : Nat) : Int)), .slice lg gl.length lc] 73) :: .obj m (mapO ((swp ws seen os).map Ob.en) last) :: .row 96 2 (.slice sg gs.length sc) gs.length (gapC gs) :: .row 96 2 (.slice lg gl.length lc) gl.length (gapC gl) :: .obj fm (mapO (mkE 0 ws) ws.length) :: .obj r5 (.mapIter (some m) last ((seen ++ [o.x - 1])).toArray last) :: T)) hA hM rfl rfl (m_store rfl rfl rfl (by kernel_rfl) hM 0 rfl rfl rfl) 0 rfl rfl rfl ?_
     intro w35 hM
     refine seq_do hA rfl rfl rfl (does_assign rfl) ?_
     intro a hA
     refine seq_end ?_
     refine hK24 _ _ ?_
     refine wp_seq_k (fun K36 hK36 => ?_)
     refine wp_region_lit ?_
     refine seq_do hA rfl rfl rfl (does_move rfl) ?_
     intro a hA
     refine seq_do (v := .bool true) hA rfl rfl rfl (does_un rfl un_not) ?_
     intro a hA
     refine seq_end ?_
     refine hK36 _ _ ?_
     refine wp_cond_true (hA.ev rfl) ?_
     refine wp_seq_k (fun K37 hK37 => ?_)
     refine wp_region_lit ?_
     refine seq_do hA rfl rfl rfl (does_move rfl) ?_
     intro a hA
     refine seq_do (v := .pointer (some ⟨g21, 1, none⟩)) hA rfl rfl rfl (does_field HbG_fld_79_1 rfl rfl) ?_
     intro a hA
     refine seq_do hA rfl rfl rfl (m_load1 hM HbG_is1_59 rfl 1 rfl rfl) ?_
     intro a hA
     refine seq_do (v := .int .i64 (((o.ws.length : Nat) : Int))) hA rfl rfl rfl (does_len Try.underlying59 rfl) ?_
     intro a hA
     refine seq_do (v := .int .i64 (((q + o.ws.length : Nat) : Int))) hA rfl rfl rfl (does_bin rfl rfl (ar_add ((in_i64 (by omega) (by omega)).trans (by omega)))) ?_
     intro a hA
     refine seq_do hA rfl rfl rfl (does_assign rfl) ?_
     intro a hA
     refine seq_end ?_
     refine hK37 _ _ ?_
     refine wp_region_lit ?_
     refine seq_do hA rfl rfl rfl (does_move rfl) ?_
     intro a hA
     refine seq_do hA rfl rfl rfl (does_nilq rfl) ?_
     intro a hA
     refine seq_do (v := .pointer (some ⟨h, 0, none⟩)) hA rfl rfl rfl (does_field HbG_fld_73_0 rfl rfl) ?_
     intro a hA
     refine seq_do hA rfl rfl rfl (m_load1 hM HbG_is1_67 rfl 2 rfl rfl) ?_
     intro a hA
     refine seq_do hA rfl rfl rfl (does_move rfl) ?_
     intro a hA
     refine s_doObjN (L' := (.obj g33 (.cells #[] 102) :: .obj g21 (.cells #[.int .i64 (((o.p : Nat) : Int)), .slice (some ⟨o.g, 0, none⟩) o.ws.length o.c] 79) :: .obj h (.cells #[.map (some m), .int .i64 (((last : Nat) : Int)), .int .i64 (((ss : Nat) : Int)), .slice sg gs.length sc, .int .i64 (((ls : Nat) : Int)), .slice lg gl.length lc] 73) :: .obj m (mapO (delK (((o.x : Nat) : Int)) ((swp ws seen os).map Ob.en)) last) :: .row 96 2 (.slice sg gs.length sc) gs.length (gapC gs) :: .row 96 2 (.slice lg gl.length lc) gl.length (gapC gl) :: .obj fm (mapO (mkE 0 ws) ws.length) :: .obj r5 (.mapIter (some m) last ((seen ++ [o.x - 1])).toArray last) :: T)) hA hM rfl rfl (sets_del hM Try.underlying67 Try.underlying3 rfl rfl 3 rfl ((hx.sub (swp_sub ws seen os)).atK homem)) 3 rfl (quiet_map _ _) rfl ?_
     intro w38 hM
     refine seq_end ?_
     replace hM : Mg w0 w38 (.obj r5 (.mapIter (some m) last ((seen ++ [o.x - 1])).toArray last) :: .obj g33 (.cells #[] 102) :: .obj g21 (.cells #[.int .i64 (((o.p : Nat) : Int)), .slice (some ⟨o.g, 0, none⟩) o.ws.length o.c] 79) :: .obj h (.cells #[.map (some m), .int .i64 (((last : Nat) : Int)), .int .i64 (((ss : Nat) : Int)), .slice sg gs.length sc, .int .i64 (((ls : Nat) : Int)), .slice lg gl.length lc] 73) :: .obj m (mapO (delK (((o.x : Nat) : Int)) ((swp ws seen os).map Ob.en)) last) :: .row 96 2 (.slice sg gs.length sc) gs.length (gapC gs) :: .row 96 2 (.slice lg gl.length lc) gl.length (gapC gl) :: .obj fm (mapO (mkE 0 ws) ws.length) :: T) := hM.bring 7 rfl rfl
     replace hM : Mg w0 w38 (.obj fm (mapO (mkE 0 ws) ws.length) :: .obj r5 (.mapIter (some m) last ((seen ++ [o.x - 1])).toArray last) :: .obj g33 (.cells #[] 102) :: .obj g21 (.cells #[.int .i64 (((o.p : Nat) : Int)), .slice (some ⟨o.g, 0, none⟩) o.ws.length o.c] 79) :: .obj h (.cells #[.map (some m), .int .i64 (((last : Nat) : Int)), .int .i64 (((ss : Nat) : Int)), .slice sg gs.length sc, .int .i64 (((ls : Nat) : Int)), .slice lg gl.length lc] 73) :: .obj m (mapO (delK (((o.x : Nat) : Int)) ((swp ws seen os).map Ob.en)) last) :: .row 96 2 (.slice sg gs.length sc) gs.length (gapC gs) :: .row 96 2 (.slice lg gl.length lc) gl.length (gapC gl) :: T) := hM.bring 7 rfl rfl
     replace hM : Mg w0 w38 (.row 96 2 (.slice lg gl.length lc) gl.length (gapC gl) :: .obj fm (mapO (mkE 0 ws) ws.length) :: .obj r5 (.mapIter (some m) last ((seen ++ [o.x - 1])).toArray last) :: .obj g33 (.cells #[] 102) :: .obj g21 (.cells #[.int .i64 (((o.p : Nat) : Int)), .slice (some ⟨o.g, 0, none⟩) o.ws.length o.c] 79) :: .obj h (.cells #[.map (some m), .int .i64 (((last : Nat) : Int)), .int .i64 (((ss : Nat) : Int)), .slice sg gs.length sc, .int .i64 (((ls : Nat) : Int)), .slice lg gl.length lc] 73) :: .obj m (mapO (delK (((o.x : Nat) : Int)) ((swp ws seen os).map Ob.en)) last) :: .row 96 2 (.slice sg gs.length sc) gs.length (gapC gs) :: T) := hM.bring 7 rfl rfl
     replace hM : Mg w0 w38 (.row 96 2 (.slice sg gs.length sc) gs.length (gapC gs) :: .row 96 2 (.slice lg gl.length lc) gl.length (gapC gl) :: .obj fm (mapO (mkE 0 ws) ws.length) :: .obj r5 (.mapIter (some m) last ((seen ++ [o.x - 1])).toArray last) :: .obj g33 (.cells #[] 102) :: .obj g21 (.cells #[.int .i64 (((o.p : Nat) : Int)), .slice (some ⟨o.g, 0, none⟩) o.ws.length o.c] 79) :: .obj h (.cells #[.map (some m), .int .i64 (((last : Nat) : Int)), .int .i64 (((ss : Nat) : Int)), .slice sg gs.length sc, .int .i64 (((ls : Nat) : Int)), .slice lg gl.length lc] 73) :: .obj m (mapO (delK (((o.x : Nat) : Int)) ((swp ws seen os).map Ob.en)) last) :: T) := hM.bring 7 rfl rfl
     replace hM : Mg w0 w38 (.obj m (mapO (delK (((o.x : Nat) : Int)) ((swp ws seen os).map Ob.en)) last) :: .row 96 2 (.slice sg gs.length sc) gs.length (gapC gs) :: .row 96 2 (.slice lg gl.length lc) gl.length (gapC gl) :: .obj fm (mapO (mkE 0 ws) ws.length) :: .obj r5 (.mapIter (some m) last ((seen ++ [o.x - 1])).toArray last) :: .obj g33 (.cells #[] 102) :: .obj g21 (.cells #[.int .i64 (((o.p : Nat) : Int)), .slice (some ⟨o.g, 0, none⟩) o.ws.length o.c] 79) :: .obj h (.cells #[.map (some m), .int .i64 (((last : Nat) : Int)), .int .i64 (((ss : Nat) : Int)), .slice sg gs.length sc, .int .i64 (((ls : Nat) : Int)), .slice lg gl.length lc] 73) :: T) := hM.bring 7 rfl rfl
     replace hM : Mg w0 w38 (.obj h (.cells #[.map (some m), .int .i64 (((last : Nat) : Int)), .int .i64 (((ss : Nat) : Int)), .slice sg gs.length sc, .int .i64 (((ls : Nat) : Int)), .slice lg gl.length lc] 73) :: .obj m (mapO (delK (((o.x : Nat) : Int)) ((swp ws seen os).map Ob.en)) last) :: .row 96 2 (.slice sg gs.length sc) gs.length (gapC gs) :: .row 96 2 (.slice lg gl.length lc) gl.length (gapC gl) :: .obj fm (mapO (mkE 0 ws) ws.length) :: .obj r5 (.mapIter (some m) last ((seen ++ [o.x - 1])).toArray last) :: .obj g33 (.cells #[] 102) :: .obj g21 (.cells #[.int .i64 (((o.p : Nat) : Int)), .slice (some ⟨o.g, 0, none⟩) o.ws.length o.c] 79) :: T) := hM.bring 7 rfl rfl
     replace hM : Mg w0 w38 (.obj h (.cells #[.map (some m), .int .i64 (((last : Nat) : Int)), .int .i64 (((ss : Nat) : Int)), .slice sg gs.length sc, .int .i64 (((ls : Nat) : Int)), .slice lg gl.length lc] 73) :: .obj m (mapO (delK (((o.x : Nat) : Int)) ((swp ws seen os).map Ob.en)) last) :: .row 96 2 (.slice sg gs.length sc) gs.length (gapC gs) :: .row 96 2 (.slice lg gl.length lc) gl.length (gapC gl) :: .obj fm (mapO (mkE 0 ws) ws.length) :: .obj r5 (.mapIter (some m) last ((seen ++ [o.x - 1])).toArray last) :: T) := by
       have h9 := hM.sub (.cons_cons _ (.cons_cons _ (.cons_cons _ (.cons_cons _ (.cons_cons _ (.cons_cons _ (.cons _ (.cons _ (.refl _)))))))))
       exact h9
     replace hM : Mg w0 w38 (.obj h (.cells #[.map (some m), .int .i64 (((last : Nat) : Int)), .int .i64 (((ss : Nat) : Int)), .slice sg gs.length sc, .int .i64 (((ls : Nat) : Int)), .slice lg gl.length lc] 73) :: .obj m (mapO ((swp ws (seen ++ [o.x - 1]) os).map Ob.en) last) :: .row 96 2 (.slice sg gs.length sc) gs.length (gapC gs) :: .row 96 2 (.slice lg gl.length lc) gl.length (gapC gl) :: .obj fm (mapO (mkE 0 ws) ws.length) :: .obj r5 (.mapIter (some m) last ((seen ++ [o.x - 1])).toArray last) :: T) := by rw [delK_filter (rise_sub hx.rise (swp_sub ws seen os)) homem, ← swp_drop hx.lo ho2 (of_decide_eq_false hb25)] at hM; exact hM
     refine hK8 _ _ _ (by have := unseen_less hx.lo ho2; omega) ⟨seen ++ [o.x - 1], q + o.ws.length, rfl, (by rw [sumW_drop hx.rise hx.lo ho2 (of_decide_eq_false hb25), hq]), hA.keep _ ⟨rfl, rfl, rfl, rfl, rfl, rfl, rfl, rfl, rfl, trivial⟩, hM⟩
theorem live_any {w0 w : World} {h m last ss ls sc lc : Nat} {sg lg : Option Addr} {gs gl : List (Nat × Nat)} {os : List Ob} {T : List Ck} (hx : Hx os last) (hol : os.length ≤ 1000000) (hnT : noBld T) (hM0 : Mg w0 w (.obj h (.cells #[.map (some m), .int .i64 (((last : Nat) : Int)), .int .i64 (((ss : Nat) : Int)), .slice sg gs.length sc, .int .i64 (((ls : Nat) : Int)), .slice lg gl.length lc] 73) :: .obj m (mapO (os.map Ob.en) last) :: .row 96 2 (.slice sg gs.length sc) gs.length (gapC gs) :: .row 96 2 (.slice lg gl.length lc) gl.length (gapC gl) :: T)) : Calls Try.prog 24 #[.pointer (some ⟨h, 0, none⟩)] w fun e w' => ∃ so' ca', e = .returned (.slice so' (hxs os).length ca') ∧ Mg w0 w' (.obj h (.cells #[.map (some m), .int .i64 (((last : Nat) : Int)), .int .i64 (((ss : Nat) : Int)), .slice sg gs.length sc, .int .i64 (((ls : Nat) : Int)), .slice lg gl.length lc] 73) :: .obj m (mapO (os.map Ob.en) last) :: .row 96 2 (.slice sg gs.length sc) gs.length (gapC gs) :: .row 96 2 (.slice lg gl.length lc) gl.length (gapC gl) :: .row 3 1 (.slice so' ((hxs os).length) ca') ((hxs os).length) (intC (hxs os)) :: T) := by
 have hM : Mg w0 w (.obj h (.cells #[.map (some m), .int .i64 (((last : Nat) : Int)), .int .i64 (((ss : Nat) : Int)), .slice sg gs.length sc, .int .i64 (((ls : Nat) : Int)), .slice lg gl.length lc] 73) :: .obj m (mapO (os.map Ob.en) last) :: .row 96 2 (.slice sg gs.length sc) gs.length (gapC gs) :: .row 96 2 (.slice lg gl.length lc) gl.length (gapC gl) :: T) := hM0
 refine walk_of (l := [(0, .pointer (some ⟨h, 0, none⟩))]) Try.func24 rfl Try.ntmps24 rfl rfl ?_
 intro Q hret hnorm hP a hA
 refine wp_seq_k (fun K1 hK1 => ?_)
 refine wp_region_lit ?_
 refine seq_do hA rfl rfl rfl (does_assign rfl) ?_
 intro a hA
 refine seq_end ?_
 refine hK1 _ _ ?_
 refine wp_seq_k (fun K2 hK2 => ?_)
 refine wp_seq_k (fun K3 hK3 => ?_)
 refine wp_region_lit ?_
 refine seq_do hA rfl rfl rfl (does_move rfl) ?_
 intro a hA
 refine seq_do (v := .bool false) hA rfl rfl rfl (does_bin rfl rfl (bin_nilN Try.underlying24)) ?_
 intro a hA
 refine seq_end ?_
 refine hK3 _ _ ?_
 refine wp_cond_false (hA.ev rfl) ?_
 refine wp_skip ?_
 refine hK2 _ _ ?_
 refine wp_seq_k (fun K4 hK4 => ?_)
 refine wp_region_lit ?_
 refine seq_do hA rfl rfl rfl (does_assign rfl) ?_
 intro a hA
 refine seq_end ?_
 refine hK4 _ _ ?_
 refine wp_seq_k (fun K5 hK5 => ?_)
 refine wp_seq_k (fun K6 hK6 => ?_)
 refine wp_region_lit ?_
 refine seq_do hA rfl rfl rfl (does_move rfl) ?_
 intro a hA
 refine seq_do hA rfl rfl rfl (does_nilq rfl) ?_
 intro a hA
 refine seq_do (v := .pointer (some ⟨h, 0, none⟩)) hA rfl rfl rfl (does_field HbG_fld_73_0 rfl rfl) ?_
 intro a hA
 refine seq_do hA rfl rfl rfl (m_load1 hM HbG_is1_67 rfl 0 rfl rfl) ?_
 intro a hA
 refine s_rangeM hA hM rfl Try.underlying67 rfl 1 rfl rfl rfl rfl ?_
 intro r7 w8 hM a hA
 replace hM : Mg w0 w8 (.obj r7 (.mapIter (some m) last ([]).toArray last) :: .obj h (.cells #[.map (some m), .int .i64 (((last : Nat) : Int)), .int .i64 (((ss : Nat) : Int)), .slice sg gs.length sc, .int .i64 (((ls : Nat) : Int)), .slice lg gl.length lc] 73) :: .obj m (mapO (os.map Ob.en) last) :: .row 96 2 (.slice sg gs.length sc) gs.length (gapC gs) :: .row 96 2 (.slice lg gl.length lc) gl.length (gapC gl) :: T) := hM
 refine seq_end ?_
 refine hK6 _ _ ?_
 refine wp_block ?_
 replace hM := hM.nilRowH (noBld_cons (by simp) (noBld_cons (by simp) (noBld_cons (by simp) (noBld_cons (by simp) (noBld_cons (by simp) hnT))))) 3 1
 replace hM : Mg w0 w8 (.obj r7 (.mapIter (some m) last ([]).toArray last) :: .row 3 1 (.slice none 0 0) 0 (intC []) :: .obj h (.cells #[.map (some m), .int .i64 (((last : Nat) : Int)), .int .i64 (((ss : Nat) : Int)), .slice sg gs.length sc, .int .i64 (((ls : Nat) : Int)), .slice lg gl.length lc] 73) :: .obj m (mapO (os.map Ob.en) last) :: .row 96 2 (.slice sg gs.length sc) gs.length (gapC gs) :: .row 96 2 (.slice lg gl.length lc) gl.length (gapC gl) :: T) := hM.bring 1 rfl rfl
 replace hM : Mg w0 w8 (.row 3 1 (.slice none 0 0) 0 (intC []) :: .obj r7 (.mapIter (some m) last ([]).toArray last) :: .obj h (.cells #[.map (some m), .int .i64 (((last : Nat) : Int)), .int .i64 (((ss : Nat) : Int)), .slice sg gs.length sc, .int .i64 (((ls : Nat) : Int)), .slice lg gl.length lc] 73) :: .obj m (mapO (os.map Ob.en) last) :: .row 96 2 (.slice sg gs.length sc) gs.length (gapC gs) :: .row 96 2 (.slice lg gl.length lc) gl.length (gapC gl) :: T) := hM.bring 1 rfl rfl
 replace hM : Mg w0 w8 (.row 96 2 (.slice lg gl.length lc) gl.length (gapC gl) :: .row 3 1 (.slice none 0 0) 0 (intC []) :: .obj r7 (.mapIter (some m) last ([]).toArray last) :: .obj h (.cells #[.map (some m), .int .i64 (((last : Nat) : Int)), .int .i64 (((ss : Nat) : Int)), .slice sg gs.length sc, .int .i64 (((ls : Nat) : Int)), .slice lg gl.length lc] 73) :: .obj m (mapO (os.map Ob.en) last) :: .row 96 2 (.slice sg gs.length sc) gs.length (gapC gs) :: T) := hM.bring 5 rfl rfl
 replace hM : Mg w0 w8 (.row 96 2 (.slice sg gs.length sc) gs.length (gapC gs) :: .row 96 2 (.slice lg gl.length lc) gl.length (gapC gl) :: .row 3 1 (.slice none 0 0) 0 (intC []) :: .obj r7 (.mapIter (some m) last ([]).toArray last) :: .obj h (.cells #[.map (some m), .int .i64 (((last : Nat) : Int)), .int .i64 (((ss : Nat) : Int)), .slice sg gs.length sc, .int .i64 (((ls : Nat) : Int)), .slice lg gl.length lc] 73) :: .obj m (mapO (os.map Ob.en) last) :: T) := hM.bring 5 rfl rfl
 replace hM : Mg w0 w8 (.obj m (mapO (os.map Ob.en) last) :: .row 96 2 (.slice sg gs.length sc) gs.length (gapC gs) :: .row 96 2 (.slice lg gl.length lc) gl.length (gapC gl) :: .row 3 1 (.slice none 0 0) 0 (intC []) :: .obj r7 (.mapIter (some m) last ([]).toArray last) :: .obj h (.cells #[.map (some m), .int .i64 (((last : Nat) : Int)), .int .i64 (((ss : Nat) : Int)), .slice sg gs.length sc, .int .i64 (((ls : Nat) : Int)), .slice lg gl.length lc] 73) :: T) := hM.bring 5 rfl rfl
 replace hM : Mg w0 w8 (.obj h (.cells #[.map (some m), .int .i64 (((last : Nat) : Int)), .int .i64 (((ss : Nat) : Int)), .slice sg gs.length sc, .int .i64 (((ls : Nat) : Int)), .slice lg gl.length lc] 73) :: .obj m (mapO (os.map Ob.en) last) :: .row 96 2 (.slice sg gs.length sc) gs.length (gapC gs) :: .row 96 2 (.slice lg gl.length lc) gl.length (gapC gl) :: .row 3 1 (.slice none 0 0) 0 (intC []) :: .obj r7 (.mapIter (some m) last ([]).toArray last) :: T) := hM.bring 5 rfl rfl
 refine wp_loop_n (fun m_ a w1 => ∃ (seen : List Nat) (ks : List Int) (so_ : Option Addr) (ca_ : Nat) (nk : Nat), m_ = 1 + (unseen seen os).length ∧ (ks.Perm (hxs (came (fun _ => true) seen os)) ∧ nk = ks.length) ∧ Sl a 23 [(0, .pointer (some ⟨h, 0, none⟩)), (2, .slice none 0 0), (3, .slice so_ nk ca_), (5, .pointer (some ⟨h, 0, none⟩)), (6, .bool false), (7, .pointer (some ⟨h, 0, none⟩)), (8, .pointer (some ⟨h, 0, none⟩)), (9, .pointer (some ⟨h, 0, none⟩)), (10, .map (some m)), (11, .pointer (some ⟨r7, 0, none⟩))] ∧ Mg w0 w1 (.obj h (.cells #[.map (some m), .int .i64 (((last : Nat) : Int)), .int .i64 (((ss : Nat) : Int)), .slice sg gs.length sc, .int .i64 (((ls : Nat) : Int)), .slice lg gl.length lc] 73) :: .obj m (mapO (os.map Ob.en) last) :: .row 96 2 (.slice sg gs.length sc) gs.length (gapC gs) :: .row 96 2 (.slice lg gl.length lc) gl.length (gapC gl) :: .row 3 1 (.slice so_ nk ca_) nk (intC ks) :: .obj r7 (.mapIter (some m) last seen.toArray last) :: T)) _ ⟨[], [], none, 0, 0, rfl, ⟨(by rw [came_nil]; exact .refl _), rfl⟩, hA.keep _ ⟨rfl, rfl, rfl, rfl, rfl, rfl, rfl, rfl, rfl, rfl, trivial⟩, hM⟩ ?_
 clear hM hA
 rintro m_ a w9 ⟨seen, ks, so_, ca_, nk, rfl, hinv11, hA, hM⟩ K10 hK10
 obtain ⟨hk, hnk⟩ := hinv11
 have hkl := live_len hk
 refine wp_seq_k (fun K12 hK12 => ?_)
 refine wp_region_lit ?_
 refine s_nextM (seen := seen) (L' := fun e13 => (.obj h (.cells #[.map (some m), .int .i64 (((last : Nat) : Int)), .int .i64 (((ss : Nat) : Int)), .slice sg gs.length sc, .int .i64 (((ls : Nat) : Int)), .slice lg gl.length lc] 73) :: .obj m (mapO (os.map Ob.en) last) :: .row 96 2 (.slice sg gs.length sc) gs.length (gapC gs) :: .row 96 2 (.slice lg gl.length lc) gl.length (gapC gl) :: .row 3 1 (.slice so_ nk ca_) nk (intC ks) :: .obj r7 (.mapIter (some m) last ((seen ++ [e13.b])).toArray last) :: T)) hA hM rfl rfl 5 1 rfl rfl hx.old (Nat.le_refl _) rfl rfl rfl (fun _ => rfl) ?_ ?_
 · intro hz18 a hA
   rw [leftE_os] at hz18
   replace hz18 := List.map_eq_nil_iff.1 hz18
   refine seq_do (v := .bool false) hA rfl rfl rfl (does_extract (vs := [.bool false]) rfl rfl) ?_
   intro a hA
   refine seq_end ?_
   refine hK12 _ _ ?_
   refine wp_seq_k (fun K19 hK19 => ?_)
   refine wp_cond_false (hA.ev rfl) ?_
   refine wp_exit ?_
   refine hK5 _ _ ?_
   refine wp_seq_k (fun K20 hK20 => ?_)
   refine wp_region_lit ?_
   refine seq_do hA rfl rfl rfl (does_move rfl) ?_
   intro a hA
   replace hM : Mg w0 w9 (.row 3 1 (.slice so_ nk ca_) nk (intC ks) :: .obj h (.cells #[.map (some m), .int .i64 (((last : Nat) : Int)), .int .i64 (((ss : Nat) : Int)), .slice sg gs.length sc, .int .i64 (((ls : Nat) : Int)), .slice lg gl.length lc] 73) :: .obj m (mapO (os.map Ob.en) last) :: .row 96 2 (.slice sg gs.length sc) gs.length (gapC gs) :: .row 96 2 (.slice lg gl.length lc) gl.length (gapC gl) :: .obj r7 (.mapIter (some m) last seen.toArray last) :: T) := hM.bring 4 rfl rfl
   have hpm := live_end hz18 hk
   refine seq_call hA rfl rfl rfl (enters_func rfl rfl (fun w => by kernel_rfl)) (sortI_any hnk (by omega) hM) ?_
   rintro _ w22 ⟨rfl, hM21⟩
   rw [sort_hxs hx.rise hpm] at hM21
   replace hM : Mg w0 w22 (.row 3 1 (.slice so_ nk ca_) nk (intC (hxs os)) :: .obj h (.cells #[.map (some m), .int .i64 (((last : Nat) : Int)), .int .i64 (((ss : Nat) : Int)), .slice sg gs.length sc, .int .i64 (((ls : Nat) : Int)), .slice lg gl.length lc] 73) :: .obj m (mapO (os.map Ob.en) last) :: .row 96 2 (.slice sg gs.length sc) gs.length (gapC gs) :: .row 96 2 (.slice lg gl.length lc) gl.length (gapC gl) :: .obj r7 (.mapIter (some m) last seen.toArray last) :: T) := hM21
   refine ⟨_, rfl, ?_⟩
   intro a hA
   refine seq_end ?_
   refine hK20 _ _ ?_
   refine wp_seq_k (fun K23 hK23 => ?_)
   refine wp_region_lit ?_
   refine seq_do hA rfl rfl rfl (does_move rfl) ?_
   intro a hA
   refine seq_do hA rfl rfl rfl (does_assign rfl) ?_
   intro a hA
   refine seq_end ?_
   refine hK23 _ _ ?_
   refine wp_ret ?_
   refine hret _ _ ?_
   refine ends (v := .slice so_ nk ca_) hA rfl (.cons (res_tmp rfl) .nil) rfl ?_
   replace hM : Mg w0 w22 (.row 96 2 (.slice lg gl.length lc) gl.length (gapC gl) :: .row 3 1 (.slice so_ nk ca_) nk (intC (hxs os)) :: .obj h (.cells #[.map (some m), .int .i64 (((last : Nat) : Int)), .int .i64 (((ss : Nat) : Int)), .slice sg gs.length sc, .int .i64 (((ls : Nat) : Int)), .slice lg gl.length lc] 73) :: .obj m (mapO (os.map Ob.en) last) :: .row 96 2 (.slice sg gs.length sc) gs.length (gapC gs) :: .obj r7 (.mapIter (some m) last seen.toArray last) :: T) := hM.bring 4 rfl rfl
   replace hM : Mg w0 w22 (.row 96 2 (.slice sg gs.length sc) gs.length (gapC gs) :: .row 96 2 (.slice lg gl.length lc) gl.length (gapC gl) :: .row 3 1 (.slice so_ nk ca_) nk (intC (hxs os)) :: .obj h (.cells #[.map (some m), .int .i64 (((last : Nat) : Int)), .int .i64 (((ss : Nat) : Int)), .slice sg gs.length sc, .int .i64 (((ls : Nat) : Int)), .slice lg gl.length lc] 73) :: .obj m (mapO (os.map Ob.en) last) :: .obj r7 (.mapIter (some m) last seen.toArray last) :: T) := hM.bring 4 rfl rfl
   replace hM : Mg w0 w22 (.obj m (mapO (os.map Ob.en) last) :: .row 96 2 (.slice sg gs.length sc) gs.length (gapC gs) :: .row 96 2 (.slice lg gl.length lc) gl.length (gapC gl) :: .row 3 1 (.slice so_ nk ca_) nk (intC (hxs os)) :: .obj h (.cells #[.map (some m), .int .i64 (((last : Nat) : Int)), .int .i64 (((ss : Nat) : Int)), .slice sg gs.length sc, .int .i64 (((ls : Nat) : Int)), .slice lg gl.length lc] 73) :: .obj r7 (.mapIter (some m) last seen.toArray last) :: T) := hM.bring 4 rfl rfl
   replace hM : Mg w0 w22 (.obj h (.cells #[.map (some m), .int .i64 (((last : Nat) : Int)), .int .i64 (((ss : Nat) : Int)), .slice sg gs.length sc, .int .i64 (((ls : Nat) : Int)), .slice lg gl.length lc] 73) :: .obj m (mapO (os.map Ob.en) last) :: .row 96 2 (.slice sg gs.length sc) gs.length (gapC gs) :: .row 96 2 (.slice lg gl.length lc) gl.length (gapC gl) :: .row 3 1 (.slice so_ nk ca_) nk (intC (hxs os)) :: .obj r7 (.mapIter (some m) last seen.toArray last) :: T) := hM.bring 4 rfl rfl
   replace hM : Mg w0 w22 (.obj h (.cells #[.map (some m), .int .i64 (((last : Nat) : Int)), .int .i64 (((ss : Nat) : Int)), .slice sg gs.length sc, .int .i64 (((ls : Nat) : Int)), .slice lg gl.length lc] 73) :: .obj m (mapO (os.map Ob.en) last) :: .row 96 2 (.slice sg gs.length sc) gs.length (gapC gs) :: .row 96 2 (.slice lg gl.length lc) gl.length (gapC gl) :: .row 3 1 (.slice so_ nk ca_) nk (intC (hxs os)) :: T) := by
     have h9 := hM.sub (.cons_cons _ (.cons_cons _ (.cons_cons _ (.cons_cons _ (.cons_cons _ (.cons _ (.refl _)))))))
     exact h9
   have e9 : nk = (hxs os).length := by rw [hnk, hpm.length_eq]
   rw [e9] at hM
   exact ⟨_, _, by rw [e9], hM⟩
 · intro e13 he14 w15 hM a hA
   rw [leftE_os] at he14
   obtain ⟨o, ho, rfl⟩ := List.mem_map.1 he14
   replace hM : Mg w0 w15 (.obj h (.cells #[.map (some m), .int .i64 (((last : Nat) : Int)), .int .i64 (((ss : Nat) : Int)), .slice sg gs.length sc, .int .i64 (((ls : Nat) : Int)), .slice lg gl.length lc] 73) :: .obj m (mapO (os.map Ob.en) last) :: .row 96 2 (.slice sg gs.length sc) gs.length (gapC gs) :: .row 96 2 (.slice lg gl.length lc) gl.length (gapC gl) :: .row 3 1 (.slice so_ nk ca_) nk (intC ks) :: .obj r7 (.mapIter (some m) last ((seen ++ [o.x - 1])).toArray last) :: T) := hM
   have homem : o ∈ os := (List.mem_filter.1 ho).1
   refine seq_do (v := .bool true) hA rfl rfl rfl (does_extract (vs := [.bool true, .int .i64 (((o.x : Nat) : Int)), .agg #[.int .i64 (((o.p : Nat) : Int)), .slice (some ⟨o.g, 0, none⟩) o.ws.length o.c]]) rfl rfl) ?_
   intro a hA
   refine seq_end ?_
   refine hK12 _ _ ?_
   refine wp_seq_k (fun K24 hK24 => ?_)
   refine wp_cond_true (hA.ev rfl) ?_
   refine wp_skip ?_
   refine hK24 _ _ ?_
   refine wp_block ?_
   refine wp_seq_k (fun K25 hK25 => ?_)
   refine wp_region_lit ?_
   refine seq_do (v := .tuple #[.int .i64 (((o.x : Nat) : Int)), .agg #[.int .i64 (((o.p : Nat) : Int)), .slice (some ⟨o.g, 0, none⟩) o.ws.length o.c]]) hA rfl rfl rfl (m_entry (e := o.en) (seen := seen) hM rfl 5 1 rfl rfl (List.mem_map.2 ⟨o, homem, rfl⟩) hx.nodup) ?_
   intro a hA
   refine seq_do (v := .int .i64 (((o.x : Nat) : Int))) hA rfl rfl rfl (does_extract (vs := [.int .i64 (((o.x : Nat) : Int)), .agg #[.int .i64 (((o.p : Nat) : Int)), .slice (some ⟨o.g, 0, none⟩) o.ws.length o.c]]) rfl rfl) ?_
   intro a hA
   refine seq_do hA rfl rfl rfl (does_assign rfl) ?_
   intro a hA
   refine seq_end ?_
   refine hK25 _ _ ?_
   refine wp_region_lit ?_
   refine seq_do hA rfl rfl rfl (does_move rfl) ?_
   intro a hA
   refine seq_do hA rfl rfl rfl (does_move rfl) ?_
   intro a hA
   refine s_litE (e := 3) (sz := 1) (m := 1) (vs := intC [((o.x : Nat) : Int)]) hA hM rfl rfl rfl (does_buildSlice rfl (by kernel_rfl)) rfl rfl (.inl (by decide)) ?_
   intro g26 w27 hM a hA
   refine s_appendE (e := 3) (sz := 1) (k := 5) (q := nk) (m := 1) (xs := intC ks) (news := intC [((o.x : Nat) : Int)]) (L' := fun v28 => (.row 3 1 (.slice (some ⟨g26, 0, none⟩) 1 1) 1 (intC [((o.x : Nat) : Int)]) :: .obj h (.cells #[.map (some m), .int .i64 (((last : Nat) : Int)), .int .i64 (((ss : Nat) : Int)), .slice sg gs.length sc, .int .i64 (((ls : Nat) : Int)), .slice lg gl.length lc] 73) :: .obj m (mapO (os.map Ob.en) last) :: .row 96 2 (.slice sg gs.length sc) gs.length (gapC gs) :: .row 96 2 (.slice lg gl.length lc) gl.length (gapC gl) :: .row 3 1 (v28) (nk + 1) (intC ks ++ intC [((o.x : Nat) : Int)]) :: .obj r7 (.mapIter (some m) last ((seen ++ [o.x - 1])).toArray last) :: T)) hA rfl rfl rfl (m_appendE (z := .int .i64 0) (sz := 1) (by_ := 8) Try.underlying33 (by kernel_rfl) rfl rfl rfl hM 5 rfl rfl 0 rfl rfl rfl rfl (by omega)) (fun _ => rfl) ?_
   intro v28 w29 hM a hA
   replace hM : Mg w0 w29 (.row 3 1 (.slice (some ⟨g26, 0, none⟩) 1 1) 1 (intC [((o.x : Nat) : Int)]) :: .obj h (.cells #[.map (some m), .int .i64 (((last : Nat) : Int)), .int .i64 (((ss : Nat) : Int)), .slice sg gs.length sc, .int .i64 (((ls : Nat) : Int)), .slice lg gl.length lc] 73) :: .obj m (mapO (os.map Ob.en) last) :: .row 96 2 (.slice sg gs.length sc) gs.length (gapC gs) :: .row 96 2 (.slice lg gl.length lc) gl.length (gapC gl) :: .row 3 1 (v28) (nk + 1) (intC (ks ++ [((o.x : Nat) : Int)])) :: .obj r7 (.mapIter (some m) last ((seen ++ [o.x - 1])).toArray last) :: T) := by rw [intC_append]; exact hM
   obtain ⟨so30, ca31, rfl⟩ := owns_anyH (hM.has 5 rfl)
   refine seq_do hA rfl rfl rfl (does_assign rfl) ?_
   intro a hA
   refine seq_end ?_
   replace hM : Mg w0 w29 (.obj r7 (.mapIter (some m) last ((seen ++ [o.x - 1])).toArray last) :: .row 3 1 (.slice (some ⟨g26, 0, none⟩) 1 1) 1 (intC [((o.x : Nat) : Int)]) :: .obj h (.cells #[.map (some m), .int .i64 (((last : Nat) : Int)), .int .i64 (((ss : Nat) : Int)), .slice sg gs.length sc, .int .i64 (((ls : Nat) : Int)), .slice lg gl.length lc] 73) :: .obj m (mapO (os.map Ob.en) last) :: .row 96 2 (.slice sg gs.length sc) gs.length (gapC gs) :: .row 96 2 (.slice lg gl.length lc) gl.length (gapC gl) :: .row 3 1 (.slice so30 (nk + 1) ca31) (nk + 1) (intC (ks ++ [((o.x : Nat) : Int)])) :: T) := hM.bring 6 rfl rfl
   replace hM : Mg w0 w29 (.row 3 1 (.slice so30 (nk + 1) ca31) (nk + 1) (intC (ks ++ [((o.x : Nat) : Int)])) :: .obj r7 (.mapIter (some m) last ((seen ++ [o.x - 1])).toArray last) :: .row 3 1 (.slice (some ⟨g26, 0, none⟩) 1 1) 1 (intC [((o.x : Nat) : Int)]) :: .obj h (.cells #[.map (some m), .int .i64 (((last : Nat) : Int)), .int .i64 (((ss : Nat) : Int)), .slice sg gs.length sc, .int .i64 (((ls : Nat) : Int)), .slice lg gl.length lc] 73) :: .obj m (mapO (os.map Ob.en) last) :: .row 96 2 (.slice sg gs.length sc) gs.length (gapC gs) :: .row 96 2 (.slice lg gl.length lc) gl.length (gapC gl) :: T) := hM.bring 6 rfl rfl
   replace hM : Mg w0 w29 (.row 96 2 (.slice lg gl.length lc) gl.length (gapC gl) :: .row 3 1 (.slice so30 (nk + 1) ca31) (nk + 1) (intC (ks ++ [((o.x : Nat) : Int)])) :: .obj r7 (.mapIter (some m) last ((seen ++ [o.x - 1])).toArray last) :: .row 3 1 (.slice (some ⟨g26, 0, none⟩) 1 1) 1 (intC [((o.x : Nat) : Int)]) :: .obj h (.cells #[.map (some m), .int .i64 (((last : Nat) : Int)), .int .i64 (((ss : Nat) : Int)), .slice sg gs.length sc, .int .i64 (((ls : Nat) : Int)), .slice lg gl.length lc] 73) :: .obj m (mapO (os.map Ob.en) last) :: .row 96 2 (.slice sg gs.length sc) gs.length (gapC gs) :: T) := hM.bring 6 rfl rfl
   replace hM : Mg w0 w29 (.row 96 2 (.slice sg gs.length sc) gs.length (gapC gs) :: .row 96 2 (.slice lg gl.length lc) gl.length (gapC gl) :: .row 3 1 (.slice so30 (nk + 1) ca31) (nk + 1) (intC (ks ++ [((o.x : Nat) : Int)])) :: .obj r7 (.mapIter (some m) last ((seen ++ [o.x - 1])).toArray last) :: .row 3 1 (.slice (some ⟨g26, 0, none⟩) 1 1) 1 (intC [((o.x : Nat) : Int)]) :: .obj h (.cells #[.map (some m), .int .i64 (((last : Nat) : Int)), .int .i64 (((ss : Nat) : Int)), .slice sg gs.length sc, .int .i64 (((ls : Nat) : Int)), .slice lg gl.length lc] 73) :: .obj m (mapO (os.map Ob.en) last) :: T) := hM.bring 6 rfl rfl
   replace hM : Mg w0 w29 (.obj m (mapO (os.map Ob.en) last) :: .row 96 2 (.slice sg gs.length sc) gs.length (gapC gs) :: .row 96 2 (.slice lg gl.length lc) gl.length (gapC gl) :: .row 3 1 (.slice so30 (nk + 1) ca31) (nk + 1) (intC (ks ++ [((o.x : Nat) : Int)])) :: .obj r7 (.mapIter (some m) last ((seen ++ [o.x - 1])).toArray last) :: .row 3 1 (.slice (some ⟨g26, 0, none⟩) 1 1) 1 (intC [((o.x : Nat) : Int)]) :: .obj h (.cells #[.map (some m), .int .i64 (((last : Nat) : Int)), .int .i64 (((ss : Nat) : Int)), .slice sg gs.length sc, .int .i64 (((ls : Nat) : Int)), .slice lg gl.length lc] 73) :: T) := hM.bring 6 rfl rfl
   replace hM : Mg w0 w29 (.obj h (.cells #[.map (some m), .int .i64 (((last : Nat) : Int)), .int .i64 (((ss : Nat) : Int)), .slice sg gs.length sc, .int .i64 (((ls : Nat) : Int)), .slice lg gl.length lc] 73) :: .obj m (mapO (os.map Ob.en) last) :: .row 96 2 (.slice sg gs.length sc) gs.length (gapC gs) :: .row 96 2 (.slice lg gl.length lc) gl.length (gapC gl) :: .row 3 1 (.slice so30 (nk + 1) ca31) (nk + 1) (intC (ks ++ [((o.x : Nat) : Int)])) :: .obj r7 (.mapIter (some m) last ((seen ++ [o.x - 1])).toArray last) :: .row 3 1 (.slice (some ⟨g26, 0, none⟩) 1 1) 1 (intC [((o.x : Nat) : Int)]) :: T) := hM.bring 6 rfl rfl
   replace hM : Mg w0 w29 (.obj h (.cells #[.map (some m), .int .i64 (((last : Nat) : Int)), .int .i64 (((ss : Nat) : Int)), .slice sg gs.length sc, .int .i64 (((ls : Nat) : Int)), .slice lg gl.length lc] 73) :: .obj m (mapO (os.map Ob.en) last) :: .row 96 2 (.slice sg gs.length sc) gs.length (gapC gs) :: .row 96 2 (.slice lg gl.length lc) gl.length (gapC gl) :: .row 3 1 (.slice so30 (nk + 1) ca31) (nk + 1) (intC (ks ++ [((o.x : Nat) : Int)])) :: .obj r7 (.mapIter (some m) last ((seen ++ [o.x - 1])).toArray last) :: T) := by
     have h9 := hM.sub (.cons_cons _ (.cons_cons _ (.cons_cons _ (.cons_cons _ (.cons_cons _ (.cons_cons _ (.cons _ (.refl _))))))))
     exact h9
   refine hK10 _ _ _ (by have := unseen_less hx.lo ho; omega) ⟨seen ++ [o.x - 1], ks ++ [((o.x : Nat) : Int)], so30, ca31, nk + 1, rfl, ⟨live_step hx.lo hx.rise ho hk, by rw [hnk]; simp⟩, hA.keep _ ⟨rfl, rfl, rfl, rfl, rfl, rfl, rfl, rfl, rfl, rfl, trivial⟩, hM⟩
theorem moveDown_any {w0 w : World} {h m last ss ls sc lc : Nat} {sg lg : Option Addr} {gs gl : List (Nat × Nat)} {os : List Ob} {T : List Ck} (hx : Hx os last) (hol : os.length ≤ 1000000) (hcl : ∀ o ∈ os, o.ws.length ≤ 1000000) (hsw : sumW os ≤ 1000000000) (hnT : noBld T) (hM0 : Mg w0 w (.obj h (.cells #[.map (some m), .int .i64 (((last : Nat) : Int)), .int .i64 (((ss : Nat) : Int)), .slice sg gs.length sc, .int .i64 (((ls : Nat) : Int)), .slice lg gl.length lc] 73) :: .obj m (mapO (os.map Ob.en) last) :: .row 96 2 (.slice sg gs.length sc) gs.length (gapC gs) :: .row 96 2 (.slice lg gl.length lc) gl.length (gapC gl) :: T)) : Calls Try.prog 37 #[.pointer (some ⟨h, 0, none⟩)] w fun e w' => e = .returned (.tuple #[]) ∧ Mg w0 w' (.obj h (.cells #[.map (some m), .int .i64 (((last : Nat) : Int)), .int .i64 (((ss : Nat) : Int)), .slice sg gs.length sc, .int .i64 (((ls : Nat) : Int)), .slice lg gl.length lc] 73) :: .obj m (mapO ((mvD 0 os).map Ob.en) last) :: .row 96 2 (.slice sg gs.length sc) gs.length (gapC gs) :: .row 96 2 (.slice lg gl.length lc) gl.length (gapC gl) :: T) := by
 have hxl := hxs_len os
 have hM : Mg w0 w (.obj h (.cells #[.map (some m), .int .i64 (((last : Nat) : Int)), .int .i64 (((ss : Nat) : Int)), .slice sg gs.length sc, .int .i64 (((ls : Nat) : Int)), .slice lg gl.length lc] 73) :: .obj m (mapO (os.map Ob.en) last) :: .row 96 2 (.slice sg gs.length sc) gs.length (gapC gs) :: .row 96 2 (.slice lg gl.length lc) gl.length (gapC gl) :: T) := hM0
 refine walk_of (l := [(0, .pointer (some ⟨h, 0, none⟩))]) Try.func37 rfl Try.ntmps37 rfl rfl ?_
 intro Q hret hnorm hP a hA
 refine wp_seq_k (fun K1 hK1 => ?_)
 refine wp_region_lit ?_
 refine seq_do hA rfl rfl rfl (does_assign rfl) ?_
 intro a hA
 refine seq_end ?_
 refine hK1 _ _ ?_
 refine wp_seq_k (fun K2 hK2 => ?_)
 refine wp_region_lit ?_
 refine seq_do hA rfl rfl rfl (does_move rfl) ?_
 intro a hA
 replace hM : Mg w0 w (.row 96 2 (.slice lg gl.length lc) gl.length (gapC gl) :: .obj h (.cells #[.map (some m), .int .i64 (((last : Nat) : Int)), .int .i64 (((ss : Nat) : Int)), .slice sg gs.length sc, .int .i64 (((ls : Nat) : Int)), .slice lg gl.length lc] 73) :: .obj m (mapO (os.map Ob.en) last) :: .row 96 2 (.slice sg gs.length sc) gs.length (gapC gs) :: T) := hM.bring 3 rfl rfl
 replace hM : Mg w0 w (.row 96 2 (.slice sg gs.length sc) gs.length (gapC gs) :: .row 96 2 (.slice lg gl.length lc) gl.length (gapC gl) :: .obj h (.cells #[.map (some m), .int .i64 (((last : Nat) : Int)), .int .i64 (((ss : Nat) : Int)), .slice sg gs.length sc, .int .i64 (((ls : Nat) : Int)), .slice lg gl.length lc] 73) :: .obj m (mapO (os.map Ob.en) last) :: T) := hM.bring 3 rfl rfl
 replace hM : Mg w0 w (.obj m (mapO (os.map Ob.en) last) :: .row 96 2 (.slice sg gs.length sc) gs.length (gapC gs) :: .row 96 2 (.slice lg gl.length lc) gl.length (gapC gl) :: .obj h (.cells #[.map (some m), .int .i64 (((last : Nat) : Int)), .int .i64 (((ss : Nat) : Int)), .slice sg gs.length sc, .int .i64 (((ls : Nat) : Int)), .slice lg gl.length lc] 73) :: T) := hM.bring 3 rfl rfl
 replace hM : Mg w0 w (.obj h (.cells #[.map (some m), .int .i64 (((last : Nat) : Int)), .int .i64 (((ss : Nat) : Int)), .slice sg gs.length sc, .int .i64 (((ls : Nat) : Int)), .slice lg gl.length lc] 73) :: .obj m (mapO (os.map Ob.en) last) :: .row 96 2 (.slice sg gs.length sc) gs.length (gapC gs) :: .row 96 2 (.slice lg gl.length lc) gl.length (gapC gl) :: T) := hM.bring 3 rfl rfl
 refine seq_call hA rfl rfl rfl (enters_func rfl rfl (fun w => by kernel_rfl)) (live_any (T := (T)) hx hol hnT hM) ?_
 rintro _ w4 ⟨so9, ca9, rfl, hM3⟩
 replace hM : Mg w0 w4 (.obj h (.cells #[.map (some m), .int .i64 (((last : Nat) : Int)), .int .i64 (((ss : Nat) : Int)), .slice sg gs.length sc, .int .i64 (((ls : Nat) : Int)), .slice lg gl.length lc] 73) :: .obj m (mapO (os.map Ob.en) last) :: .row 96 2 (.slice sg gs.length sc) gs.length (gapC gs) :: .row 96 2 (.slice lg gl.length lc) gl.length (gapC gl) :: .row 3 1 (.slice so9 ((hxs os).length) ca9) ((hxs os).length) (intC (hxs os)) :: T) := hM3
 refine ⟨_, rfl, ?_⟩
 intro a hA
 refine seq_do (v := .int .i64 ((((hxs os).length : Nat) : Int))) hA rfl rfl rfl (does_len Try.underlying33 rfl) ?_
 intro a hA
 refine seq_do hA rfl rfl rfl (does_move rfl) ?_
 intro a hA
 refine seq_end ?_
 refine hK2 _ _ ?_
 refine wp_block ?_
 replace hM : Mg w0 w4 (.row 3 1 (.slice so9 ((hxs os).length) ca9) ((hxs os).length) (intC (hxs os)) :: .obj h (.cells #[.map (some m), .int .i64 (((last : Nat) : Int)), .int .i64 (((ss : Nat) : Int)), .slice sg gs.length sc, .int .i64 (((ls : Nat) : Int)), .slice lg gl.length lc] 73) :: .obj m (mapO (os.map Ob.en) last) :: .row 96 2 (.slice sg gs.length sc) gs.length (gapC gs) :: .row 96 2 (.slice lg gl.length lc) gl.length (gapC gl) :: T) := hM.bring 4 rfl rfl
 replace hM : Mg w0 w4 (.row 96 2 (.slice lg gl.length lc) gl.length (gapC gl) :: .row 3 1 (.slice so9 ((hxs os).length) ca9) ((hxs os).length) (intC (hxs os)) :: .obj h (.cells #[.map (some m), .int .i64 (((last : Nat) : Int)), .int .i64 (((ss : Nat) : Int)), .slice sg gs.length sc, .int .i64 (((ls : Nat) : Int)), .slice lg gl.length lc] 73) :: .obj m (mapO (os.map Ob.en) last) :: .row 96 2 (.slice sg gs.length sc) gs.length (gapC gs) :: T) := hM.bring 4 rfl rfl
 replace hM : Mg w0 w4 (.row 96 2 (.slice sg gs.length sc) gs.length (gapC gs) :: .row 96 2 (.slice lg gl.length lc) gl.length (gapC gl) :: .row 3 1 (.slice so9 ((hxs os).length) ca9) ((hxs os).length) (intC (hxs os)) :: .obj h (.cells #[.map (some m), .int .i64 (((last : Nat) : Int)), .int .i64 (((ss : Nat) : Int)), .slice sg gs.length sc, .int .i64 (((ls : Nat) : Int)), .slice lg gl.length lc] 73) :: .obj m (mapO (os.map Ob.en) last) :: T) := hM.bring 4 rfl rfl
 replace hM : Mg w0 w4 (.obj m (mapO (os.map Ob.en) last) :: .row 96 2 (.slice sg gs.length sc) gs.length (gapC gs) :: .row 96 2 (.slice lg gl.length lc) gl.length (gapC gl) :: .row 3 1 (.slice so9 ((hxs os).length) ca9) ((hxs os).length) (intC (hxs os)) :: .obj h (.cells #[.map (some m), .int .i64 (((last : Nat) : Int)), .int .i64 (((ss : Nat) : Int)), .slice sg gs.length sc, .int .i64 (((ls : Nat) : Int)), .slice lg gl.length lc] 73) :: T) := hM.bring 4 rfl rfl
 replace hM : Mg w0 w4 (.obj h (.cells #[.map (some m), .int .i64 (((last : Nat) : Int)), .int .i64 (((ss : Nat) : Int)), .slice sg gs.length sc, .int .i64 (((ls : Nat) : Int)), .slice lg gl.length lc] 73) :: .obj m (mapO (os.map Ob.en) last) :: .row 96 2 (.slice sg gs.length sc) gs.length (gapC gs) :: .row 96 2 (.slice lg gl.length lc) gl.length (gapC gl) :: .row 3 1 (.slice so9 ((hxs os).length) ca9) ((hxs os).length) (intC (hxs os)) :: T) := hM.bring 4 rfl rfl
 replace hM : Mg w0 w4 (.obj h (.cells #[.map (some m), .int .i64 (((last : Nat) : Int)), .int .i64 (((ss : Nat) : Int)), .slice sg gs.length sc, .int .i64 (((ls : Nat) : Int)), .slice lg gl.length lc] 73) :: .obj m (mapO ((cur os 0).map Ob.en) last) :: .row 96 2 (.slice sg gs.length sc) gs.length (gapC gs) :: .row 96 2 (.slice lg gl.length lc) gl.length (gapC gl) :: .row 3 1 (.slice so9 ((hxs os).length) ca9) ((hxs os).length) (intC (hxs os)) :: T) := by rw [cur_zero]; exact hM
 refine wp_loop_n (fun m_ a w1 => ∃ (i : Nat) (q : Nat), m_ = 1 + (os.length - i) ∧ (i ≤ os.length ∧ q = mvP 0 (os.take i)) ∧ Sl a 37 [(0, .pointer (some ⟨h, 0, none⟩)), (2, .int .i64 (((q : Nat) : Int))), (6, .pointer (some ⟨h, 0, none⟩)), (7, .slice so9 ((hxs os).length) ca9), (8, .int .i64 ((((hxs os).length : Nat) : Int))), (9, .int .i64 (((i : Nat) : Int)))] ∧ Mg w0 w1 (.obj h (.cells #[.map (some m), .int .i64 (((last : Nat) : Int)), .int .i64 (((ss : Nat) : Int)), .slice sg gs.length sc, .int .i64 (((ls : Nat) : Int)), .slice lg gl.length lc] 73) :: .obj m (mapO ((cur os i).map Ob.en) last) :: .row 96 2 (.slice sg gs.length sc) gs.length (gapC gs) :: .row 96 2 (.slice lg gl.length lc) gl.length (gapC gl) :: .row 3 1 (.slice so9 ((hxs os).length) ca9) ((hxs os).length) (intC (hxs os)) :: T)) _ ⟨0, 0, rfl, ⟨Nat.zero_le _, rfl⟩, hA.keep _ ⟨rfl, rfl, rfl, rfl, rfl, rfl, trivial⟩, hM⟩ ?_
 clear hM hA
 rintro m_ a w5 ⟨i, q, rfl, hinv7, hA, hM⟩ K6 hK6
 obtain ⟨hi0, hq⟩ := hinv7
 refine wp_seq_k (fun K8 hK8 => ?_)
 refine wp_region_lit ?_
 rcases Bool.eq_false_or_eq_true (decide (((i : Nat) : Int) < (((hxs os).length : Nat) : Int))) with hb9 | hb9
 · have hb9' := of_decide_eq_true hb9
   refine seq_do (v := .bool true) hA rfl rfl rfl (does_bin rfl rfl (fun w => (bin_lss w).trans (by rw [hb9]))) ?_
   intro a hA
   refine seq_end ?_
   refine hK8 _ _ ?_
   refine wp_seq_k (fun K10 hK10 => ?_)
   refine wp_cond_true (hA.ev rfl) ?_
   refine wp_skip ?_
   refine hK10 _ _ ?_
   refine wp_seq_k (fun K11 hK11 => ?_)
   refine wp_block ?_
   refine wp_seq_k (fun K12 hK12 => ?_)
   obtain ⟨gr, hgr⟩ := row_someH (hM.has 4 rfl) (show (hxs os).length ≠ 0 by omega)
   obtain ⟨o, ho⟩ : ∃ o, os[i]? = some o := ⟨_, List.getElem?_eq_getElem (show i < os.length by omega)⟩
   have hxi := hxs_at ho
   have hca := cur_at ho
   have hfo : fO ((o.x : Nat) : Int) (cur os i) = some o := fO_at (hx.cur i).rise hca
   have hfs : (fO ((o.x : Nat) : Int) (cur os i)).isSome = true := by rw [hfo]; rfl
   have hom := List.mem_of_getElem? ho
   have hol1 := hcl o hom
   have hqb : q ≤ sumW os := by rw [hq]; exact mvP_small
   have hqn := mvP_next ho
   have hqt : mvP 0 (os.take (i + 1)) ≤ sumW os := mvP_small
   refine wp_region_lit ?_
   refine seq_do (v := .pointer (some ⟨gr, i * 1, none⟩)) hA rfl rfl rfl (does_ixO (k := i) Try.underlying33 (by kernel_rfl) rfl rfl rfl hgr (by omega)) ?_
   intro a hA
   refine seq_do (v := .int .i64 (((o.x : Nat) : Int))) hA rfl rfl rfl (m_ldO1 (j := i * 1) hM 4 rfl hgr (by rw [Nat.mul_one]; exact intC_at hxi) HbG_is1_3 rfl) ?_
   intro a hA
   refine seq_do hA rfl rfl rfl (does_assign rfl) ?_
   intro a hA
   refine seq_end ?_
   refine hK12 _ _ ?_
   refine wp_seq_k (fun K13 hK13 => ?_)
   refine wp_region_lit ?_
   refine seq_do hA rfl rfl rfl (does_move rfl) ?_
   intro a hA
   refine seq_do hA rfl rfl rfl (does_nilq rfl) ?_
   intro a hA
   refine seq_do (v := .pointer (some ⟨h, 0, none⟩)) hA rfl rfl rfl (does_field HbG_fld_73_0 rfl rfl) ?_
   intro a hA
   refine seq_do hA rfl rfl rfl (m_load1 hM HbG_is1_67 rfl 0 rfl rfl) ?_
   intro a hA
   refine seq_do hA rfl rfl rfl (does_move rfl) ?_
   intro a hA
   have hfok : atK (((o.x : Nat) : Int)) ((cur os i).map Ob.en) = some o.en := by rw [atK_en, hfo]; rfl
   refine seq_do (v := .agg #[.int .i64 (((o.p : Nat) : Int)), .slice (some ⟨o.g, 0, none⟩) o.ws.length o.c]) hA rfl rfl rfl (m_lookY hM Try.underlying67 Try.underlying3 rfl rfl 1 rfl hfok rfl) ?_
   intro a hA
   refine s_new (vs := [.int .i64 0, .slice none 0 0]) (t := 79) hA hM rfl rfl rfl (fun g => .pointer (some ⟨g, 0, none⟩)) (does_alloc (z := .agg #[.int .i64 0, .slice none 0 0]) (by kernel_rfl) rfl) (by decide) ?_
   intro g16 w17 hM a hA
   refine s_store (us := [.int .i64 (((o.p : Nat) : Int)), .slice (some ⟨o.g, 0, none⟩) o.ws.length o.c]) (L' := (.obj g16 (.cells #[.int .i64 (((o.p : Nat) : Int)), .slice (some ⟨o.g, 0, none⟩) o.ws.length o.c] 79) :: .obj h (.cells #[.map (some m), .int .i64 (((last : Nat) : Int)), .int .i64 (((ss : Nat) : Int)), .slice sg gs.length sc, .int .i64 (((ls : Nat) : Int)), .slice lg gl.length lc] 73) :: .obj m (mapO ((cur os i).map Ob.en) last) :: .row 96 2 (.slice sg gs.length sc) gs.length (gapC gs) :: .row 96 2 (.slice lg gl.length lc) gl.length (gapC gl) :: .row 3 1 (.slice so9 ((hxs os).length) ca9) ((hxs os).length) (intC (hxs os)) :: T)) hA hM rfl rfl (m_store rfl rfl rfl (by kernel_rfl) hM 0 rfl rfl rfl) 0 rfl rfl rfl ?_
   intro w18 hM
   refine seq_end ?_
   refine hK13 _ _ ?_
   refine wp_seq_k (fun K19 hK19 => ?_)
   refine wp_seq_k (fun K20 hK20 => ?_)
   refine wp_region_lit ?_
   refine seq_do (v := .pointer (some ⟨g16, 1, none⟩)) hA rfl rfl rfl (does_field HbG_fld_79_1 rfl rfl) ?_
   intro a hA
   refine seq_do hA rfl rfl rfl (m_load1 hM HbG_is1_59 rfl 0 rfl rfl) ?_
   intro a hA
   refine seq_do (v := .int .i64 (((o.ws.length : Nat) : Int))) hA rfl rfl rfl (does_len Try.underlying59 rfl) ?_
   intro a hA
   rcases Bool.eq_false_or_eq_true (decide (16 < ((o.ws.length : Nat) : Int))) with hb21 | hb21
   · have hb21' := of_decide_eq_true hb21
     refine seq_call hA rfl rfl rfl (enters_func rfl rfl (fun w => by kernel_rfl)) ((hb21 ▸ large_any)) ?_
     rintro _ w23 ⟨rfl, hb22⟩
     replace hM := hM.call hb22
     refine ⟨_, rfl, ?_⟩
     intro a hA
     refine seq_end ?_
     refine hK20 _ _ ?_
     refine wp_cond_true (hA.ev rfl) ?_
     refine wp_exit ?_
     refine hK11 _ _ ?_
     refine wp_region_lit ?_
     refine seq_do (v := .int .i64 (((i + 1 : Nat) : Int))) hA rfl rfl rfl (does_bin rfl rfl (ar_add ((in_i64 (by omega) (by omega)).trans (by omega)))) ?_
     intro a hA
     refine seq_do hA rfl rfl rfl (does_move rfl) ?_
     intro a hA
     refine seq_end ?_
     replace hM : Mg w0 w23 (.row 3 1 (.slice so9 ((hxs os).length) ca9) ((hxs os).length) (intC (hxs os)) :: .obj g16 (.cells #[.int .i64 (((o.p : Nat) : Int)), .slice (some ⟨o.g, 0, none⟩) o.ws.length o.c] 79) :: .obj h (.cells #[.map (some m), .int .i64 (((last : Nat) : Int)), .int .i64 (((ss : Nat) : Int)), .slice sg gs.length sc, .int .i64 (((ls : Nat) : Int)), .slice lg gl.length lc] 73) :: .obj m (mapO ((cur os i).map Ob.en) last) :: .row 96 2 (.slice sg gs.length sc) gs.length (gapC gs) :: .row 96 2 (.slice lg gl.length lc) gl.length (gapC gl) :: T) := hM.bring 5 rfl rfl
     replace hM : Mg w0 w23 (.row 96 2 (.slice lg gl.length lc) gl.length (gapC gl) :: .row 3 1 (.slice so9 ((hxs os).length) ca9) ((hxs os).length) (intC (hxs os)) :: .obj g16 (.cells #[.int .i64 (((o.p : Nat) : Int)), .slice (some ⟨o.g, 0, none⟩) o.ws.length o.c] 79) :: .obj h (.cells #[.map (some m), .int .i64 (((last : Nat) : Int)), .int .i64 (((ss : Nat) : Int)), .slice sg gs.length sc, .int .i64 (((ls : Nat) : Int)), .slice lg gl.length lc] 73) :: .obj m (mapO ((cur os i).map Ob.en) last) :: .row 96 2 (.slice sg gs.length sc) gs.length (gapC gs) :: T) := hM.bring 5 rfl rfl
     replace hM : Mg w0 w23 (.row 96 2 (.slice sg gs.length sc) gs.length (gapC gs) :: .row 96 2 (.slice lg gl.length lc) gl.length (gapC gl) :: .row 3 1 (.slice so9 ((hxs os).length) ca9) ((hxs os).length) (intC (hxs os)) :: .obj g16 (.cells #[.int .i64 (((o.p : Nat) : Int)), .slice (some ⟨o.g, 0, none⟩) o.ws.length o.c] 79) :: .obj h (.cells #[.map (some m), .int .i64 (((last : Nat) : Int)), .int .i64 (((ss : Nat) : Int)), .slice sg gs.length sc, .int .i64 (((ls : Nat) : Int)), .slice lg gl.length lc] 73) :: .obj m (mapO ((cur os i).map Ob.en) last) :: T) := hM.bring 5 rfl rfl
     replace hM : Mg w0 w23 (.obj m (mapO ((cur os i).map Ob.en) last) :: .row 96 2 (.slice sg gs.length sc) gs.length (gapC gs) :: .row 96 2 (.slice lg gl.length lc) gl.length (gapC gl) :: .row 3 1 (.slice so9 ((hxs os).length) ca9) ((hxs os).length) (intC (hxs os)) :: .obj g16 (.cells #[.int .i64 (((o.p : Nat) : Int)), .slice (some ⟨o.g, 0, none⟩) o.ws.length o.c] 79) :: .obj h (.cells #[.map (some m), .int .i64 (((last : Nat) : Int)), .int .i64 (((ss : Nat) : Int)), .slice sg gs.length sc, .int .i64 (((ls : Nat) : Int)), .slice lg gl.length lc] 73) :: T) := hM.bring 5 rfl rfl
     replace hM : Mg w0 w23 (.obj h (.cells #[.map (some m), .int .i64 (((last : Nat) : Int)), .int .i64 (((ss : Nat) : Int)), .slice sg gs.length sc, .int .i64 (((ls : Nat) : Int)), .slice lg gl.length lc] 73) :: .obj m (mapO ((cur os i).map Ob.en) last) :: .row 96 2 (.slice sg gs.length sc) gs.length (gapC gs) :: .row 96 2 (.slice lg gl.length lc) gl.length (gapC gl) :: .row 3 1 (.slice so9 ((hxs os).length) ca9) ((hxs os).length) (intC (hxs os)) :: .obj g16 (.cells #[.int .i64 (((o.p : Nat) : Int)), .slice (some ⟨o.g, 0, none⟩) o.ws.length o.c] 79) :: T) := hM.bring 5 rfl rfl
     replace hM : Mg w0 w23 (.obj h (.cells #[.map (some m), .int .i64 (((last : Nat) : Int)), .int .i64 (((ss : Nat) : Int)), .slice sg gs.length sc, .int .i64 (((ls : Nat) : Int)), .slice lg gl.length lc] 73) :: .obj m (mapO ((cur os i).map Ob.en) last) :: .row 96 2 (.slice sg gs.length sc) gs.length (gapC gs) :: .row 96 2 (.slice lg gl.length lc) gl.length (gapC gl) :: .row 3 1 (.slice so9 ((hxs os).length) ca9) ((hxs os).length) (intC (hxs os)) :: T) := by
       have h9 := hM.sub (.cons_cons _ (.cons_cons _ (.cons_cons _ (.cons_cons _ (.cons_cons _ (.cons _ (.refl _)))))))
       exact h9
     replace hM : Mg w0 w23 (.obj h (.cells #[.map (some m), .int .i64 (((last : Nat) : Int)), .int .i64 (((ss : Nat) : Int)), .slice sg gs.length sc, .int .i64 (((ls : Nat) : Int)), .slice lg gl.length lc] 73) :: .obj m (mapO ((cur os (i + 1)).map Ob.en) last) :: .row 96 2 (.slice sg gs.length sc) gs.length (gapC gs) :: .row 96 2 (.slice lg gl.length lc) gl.length (gapC gl) :: .row 3 1 (.slice so9 ((hxs os).length) ca9) ((hxs os).length) (intC (hxs os)) :: T) := by rw [cur_stay ho hb21]; exact hM
     refine hK6 _ _ _ (by omega) ⟨i + 1, q, rfl, ⟨by omega, by rw [hqn, if_pos (show big o = true from hb21)]; exact hq⟩, hA.keep _ ⟨rfl, rfl, rfl, rfl, rfl, rfl, trivial⟩, hM⟩
   · have hb21' := of_decide_eq_false hb21
     refine seq_call hA rfl rfl rfl (enters_func rfl rfl (fun w => by kernel_rfl)) ((hb21 ▸ large_any)) ?_
     rintro _ w25 ⟨rfl, hb24⟩
     replace hM := hM.call hb24
     refine ⟨_, rfl, ?_⟩
     intro a hA
     refine seq_end ?_
     refine hK20 _ _ ?_
     refine wp_cond_false (hA.ev rfl) ?_
     refine wp_skip ?_
     refine hK19 _ _ ?_
     refine wp_seq_k (fun K26 hK26 => ?_)
     refine wp_region_lit ?_
     refine seq_do hA rfl rfl rfl (does_move rfl) ?_
     intro a hA
     refine seq_do (v := .pointer (some ⟨g16, 0, none⟩)) hA rfl rfl rfl (does_field HbG_fld_79_0 rfl rfl) ?_
     intro a hA
     refine s_store (us := [.int .i64 (((q : Nat) : Int)), .slice (some ⟨o.g, 0, none⟩) o.ws.length o.c]) (L' := (.obj g16 (.cells #[.int .i64 (((q : Nat) : Int)), .slice (some ⟨o.g, 0, none⟩) o.ws.length o.c] 79) :: .obj h (.cells #[.map (some m), .int .i64 (((last : Nat) : Int)), .int .i64 (((ss : Nat) : Int)), .slice sg gs.length sc, .int .i64 (((ls : Nat) : Int)), .slice lg gl.length lc] 73) :: .obj m (mapO ((cur os i).map Ob.en) last) :: .row 96 2 (.slice sg gs.length sc) gs.length (gapC gs) :: .row 96 2 (.slice lg gl.length lc) gl.length (gapC gl) :: .row 3 1 (.slice so9 ((hxs os).length) ca9) ((hxs os).length) (intC (hxs os)) :: T)) hA hM rfl rfl (m_store rfl rfl rfl (by kernel_rfl) hM 0 rfl rfl rfl) 0 rfl rfl rfl ?_
     intro w27 hM
     refine seq_end ?_
     refine hK26 _ _ ?_
     refine wp_seq_k (fun K28 hK28 => ?_)
     refine wp_draw (S := fun w1 => Mg w0 w1 (.obj g16 (.cells #[.int .i64 (((q : Nat) : Int)), .slice (some ⟨o.g, 0, none⟩) o.ws.length o.c] 79) :: .obj h (.cells #[.map (some m), .int .i64 (((last : Nat) : Int)), .int .i64 (((ss : Nat) : Int)), .slice sg gs.length sc, .int .i64 (((ls : Nat) : Int)), .slice lg gl.length lc] 73) :: [])) (by kernel_rfl) ?_
     replace hM := hM.drew
     refine any_tk hA 0 rfl rfl rfl rfl hP (hM.sub (.cons_cons _ (.cons_cons _ (.cons _ (.cons _ (.cons _ (.cons _ (List.nil_sublist _)))))))) (fun w1 hM => does_move rfl) ?_
     intro a hA
     refine any_tk hA 1 rfl rfl rfl rfl hP (hM.sub (.cons_cons _ (.cons_cons _ (.cons _ (.cons _ (.cons _ (.cons _ (List.nil_sublist _)))))))) (fun w1 hM => does_nilq rfl) ?_
     intro a hA
     refine any_tk (v := .pointer (some ⟨h, 0, none⟩)) hA 2 rfl rfl rfl rfl hP (hM.sub (.cons_cons _ (.cons_cons _ (.cons _ (.cons _ (.cons _ (.cons _ (List.nil_sublist _)))))))) (fun w1 hM => does_field HbG_fld_73_0 rfl rfl) ?_
     intro a hA
     refine any_tk hA 3 rfl rfl rfl rfl hP (hM.sub (.cons_cons _ (.cons_cons _ (.cons _ (.cons _ (.cons _ (.cons _ (List.nil_sublist _)))))))) (fun w1 hM => m_load1 hM HbG_is1_67 rfl 1 rfl rfl) ?_
     intro a hA
     refine any_tk hA 4 rfl rfl rfl rfl hP (hM.sub (.cons_cons _ (.cons_cons _ (.cons _ (.cons _ (.cons _ (.cons _ (List.nil_sublist _)))))))) (fun w1 hM => does_move rfl) ?_
     intro a hA
     refine any_tk hA 5 rfl rfl rfl rfl hP (hM.sub (.cons_cons _ (.cons_cons _ (.cons _ (.cons _ (.cons _ (.cons _ (List.nil_sublist _)))))))) (fun w1 hM => m_loadS hM HbG_isS_79 rfl 0 rfl (cs := [.int .i64 (((q : Nat) : Int)), .slice (some ⟨o.g, 0, none⟩) o.ws.length o.c]) rfl rfl) ?_
     intro a hA
     refine any_one (by kernel_rfl) (g_setObj (L' := (.obj g16 (.cells #[.int .i64 (((q : Nat) : Int)), .slice (some ⟨o.g, 0, none⟩) o.ws.length o.c] 79) :: .obj h (.cells #[.map (some m), .int .i64 (((last : Nat) : Int)), .int .i64 (((ss : Nat) : Int)), .slice sg gs.length sc, .int .i64 (((ls : Nat) : Int)), .slice lg gl.length lc] 73) :: .obj m (mapO (putK (((o.x : Nat) : Int)) (.agg #[.int .i64 (((q : Nat) : Int)), .slice (some ⟨o.g, 0, none⟩) o.ws.length o.c]) ((cur os i).map Ob.en)) last) :: .row 96 2 (.slice sg gs.length sc) gs.length (gapC gs) :: .row 96 2 (.slice lg gl.length lc) gl.length (gapC gl) :: .row 3 1 (.slice so9 ((hxs os).length) ca9) ((hxs os).length) (intC (hxs os)) :: T)) hA hM 6 rfl rfl rfl (sets_old hM Try.underlying67 Try.underlying3 rfl rfl rfl 2 rfl hfok) 2 rfl (quiet_map _ _) rfl ?_)
     intro w29 hM
     refine ⟨(hM.sub (.cons_cons _ (.cons_cons _ (.cons _ (.cons _ (.cons _ (.cons _ (List.nil_sublist _)))))))), ?_⟩
     replace hM : Mg w0 w29 (.obj g16 (.cells #[.int .i64 (((q : Nat) : Int)), .slice (some ⟨o.g, 0, none⟩) o.ws.length o.c] 79) :: .obj h (.cells #[.map (some m), .int .i64 (((last : Nat) : Int)), .int .i64 (((ss : Nat) : Int)), .slice sg gs.length sc, .int .i64 (((ls : Nat) : Int)), .slice lg gl.length lc] 73) :: .obj m (mapO (((cur os i).set i { o with p := q }).map Ob.en) last) :: .row 96 2 (.slice sg gs.length sc) gs.length (gapC gs) :: .row 96 2 (.slice lg gl.length lc) gl.length (gapC gl) :: .row 3 1 (.slice so9 ((hxs os).length) ca9) ((hxs os).length) (intC (hxs os)) :: T) := by rw [← putK_at (hx.cur i).rise hca { o with p := q } rfl]; exact hM
     refine any_end (by kernel_rfl) ?_
     refine hK28 _ _ ?_
     refine wp_region_lit ?_
     refine seq_do hA rfl rfl rfl (does_move rfl) ?_
     intro a hA
     refine seq_do (v := .pointer (some ⟨g16, 1, none⟩)) hA rfl rfl rfl (does_field HbG_fld_79_1 rfl rfl) ?_
     intro a hA
     refine seq_do hA rfl rfl rfl (m_load1 hM HbG_is1_59 rfl 0 rfl rfl) ?_
     intro a hA
     refine seq_do (v := .int .i64 (((o.ws.length : Nat) : Int))) hA rfl rfl rfl (does_len Try.underlying59 rfl) ?_
     intro a hA
     refine seq_do (v := .int .i64 (((q + o.ws.length : Nat) : Int))) hA rfl rfl rfl (does_bin rfl rfl (ar_add ((in_i64 (by omega) (by omega)).trans (by omega)))) ?_
     intro a hA
     refine seq_do hA rfl rfl rfl (does_assign rfl) ?_
     intro a hA
     refine seq_end ?_
     refine hK11 _ _ ?_
     refine wp_region_lit ?_
     refine seq_do (v := .int .i64 (((i + 1 : Nat) : Int))) hA rfl rfl rfl (does_bin rfl rfl (ar_add ((in_i64 (by omega) (by omega)).trans (by omega)))) ?_
     intro a hA
     refine seq_do hA rfl rfl rfl (does_move rfl) ?_
     intro a hA
     refine seq_end ?_
     replace hM : Mg w0 w29 (.row 3 1 (.slice so9 ((hxs os).length) ca9) ((hxs os).length) (intC (hxs os)) :: .obj g16 (.cells #[.int .i64 (((q : Nat) : Int)), .slice (some ⟨o.g, 0, none⟩) o.ws.length o.c] 79) :: .obj h (.cells #[.map (some m), .int .i64 (((last : Nat) : Int)), .int .i64 (((ss : Nat) : Int)), .slice sg gs.length sc, .int .i64 (((ls : Nat) : Int)), .slice lg gl.length lc] 73) :: .obj m (mapO (((cur os i).set i { o with p := q }).map Ob.en) last) :: .row 96 2 (.slice sg gs.length sc) gs.length (gapC gs) :: .row 96 2 (.slice lg gl.length lc) gl.length (gapC gl) :: T) := hM.bring 5 rfl rfl
     replace hM : Mg w0 w29 (.row 96 2 (.slice lg gl.length lc) gl.length (gapC gl) :: .row 3 1 (.slice so9 ((hxs os).length) ca9) ((hxs os).length) (intC (hxs os)) :: .obj g16 (.cells #[.int .i64 (((q : Nat) : Int)), .slice (some ⟨o.g, 0, none⟩) o.ws.length o.c] 79) :: .obj h (.cells #[.map (some m), .int .i64 (((last : Nat) : Int)), .int .i64 (((ss : Nat) : Int)), .slice sg gs.length sc, .int .i64 (((ls : Nat) : Int)), .slice lg gl.length lc] 73) :: .obj m (mapO (((cur os i).set i { o with p := q }).map Ob.en) last) :: .row 96 2 (.slice sg gs.length sc) gs.length (gapC gs) :: T) := hM.bring 5 rfl rfl
     replace hM : Mg w0 w29 (.row 96 2 (.slice sg gs.length sc) gs.length (gapC gs) :: .row 96 2 (.slice lg gl.length lc) gl.length (gapC gl) :: .row 3 1 (.slice so9 ((hxs os).length) ca9) ((hxs os).length) (intC (hxs os)) :: .obj g16 (.cells #[.int .i64 (((q : Nat) : Int)), .slice (some ⟨o.g, 0, none⟩) o.ws.length o.c] 79) :: .obj h (.cells #[.map (some m), .int .i64 (((last : Nat) : Int)), .int .i64 (((ss : Nat) : Int)), .slice sg gs.length sc, .int .i64 (((ls : Nat) : Int)), .slice lg gl.length lc] 73) :: .obj m (mapO (((cur os i).set i { o with p := q }).map Ob.en) last) :: T) := hM.bring 5 rfl rfl
     replace hM : Mg w0 w29 (.obj m (mapO (((cur os i).set i { o with p := q }).map Ob.en) last) :: .row 96 2 (.slice sg gs.length sc) gs.length (gapC gs) :: .row 96 2 (.slice lg gl.length lc) gl.length (gapC gl) :: .row 3 1 (.slice so9 ((hxs os).length) ca9) ((hxs os).length) (intC (hxs os)) :: .obj g16 (.cells #[.int .i64 (((q : Nat) : Int)), .slice (some ⟨o.g, 0, none⟩) o.ws.length o.c] 79) :: .obj h (.cells #[.map (some m), .int .i64 (((last : Nat) : Int)), .int .i64 (((ss : Nat) : Int)), .slice sg gs.length sc, .int .i64 (((ls : Nat) : Int)), .slice lg gl.length lc] 73) :: T) := hM.bring 5 rfl rfl
     replace hM : Mg w0 w29 (.obj h (.cells #[.map (some m), .int .i64 (((last : Nat) : Int)), .int .i64 (((ss : Nat) : Int)), .slice sg gs.length sc, .int .i64 (((ls : Nat) : Int)), .slice lg gl.length lc] 73) :: .obj m (mapO (((cur os i).set i { o with p := q }).map Ob.en) last) :: .row 96 2 (.slice sg gs.length sc) gs.length (gapC gs) :: .row 96 2 (.slice lg gl.length lc) gl.length (gapC gl) :: .row 3 1 (.slice so9 ((hxs os).length) ca9) ((hxs os).length) (intC (hxs os)) :: .obj g16 (.cells #[.int .i64 (((q : Nat) : Int)), .slice (some ⟨o.g, 0, none⟩) o.ws.length o.c] 79) :: T) := hM.bring 5 rfl rfl
     replace hM : Mg w0 w29 (.obj h (.cells #[.map (some m), .int .i64 (((last : Nat) : Int)), .int .i64 (((ss : Nat) : Int)), .slice sg gs.length sc, .int .i64 (((ls : Nat) : Int)), .slice lg gl.length lc] 73) :: .obj m (mapO (((cur os i).set i { o with p := q }).map Ob.en) last) :: .row 96 2 (.slice sg gs.length sc) gs.length (gapC gs) :: .row 96 2 (.slice lg gl.length lc) gl.length (gapC gl) :: .row 3 1 (.slice so9 ((hxs os).length) ca9) ((hxs os).length) (intC (hxs os)) :: T) := by
       have h9 := hM.sub (.cons_cons _ (.cons_cons _ (.cons_cons _ (.cons_cons _ (.cons_cons _ (.cons _ (.refl _)))))))
       exact h9
     replace hM : Mg w0 w29 (.obj h (.cells #[.map (some m), .int .i64 (((last : Nat) : Int)), .int .i64 (((ss : Nat) : Int)), .slice sg gs.length sc, .int .i64 (((ls : Nat) : Int)), .slice lg gl.length lc] 73) :: .obj m (mapO ((cur os (i + 1)).map Ob.en) last) :: .row 96 2 (.slice sg gs.length sc) gs.length (gapC gs) :: .row 96 2 (.slice lg gl.length lc) gl.length (gapC gl) :: .row 3 1 (.slice so9 ((hxs os).length) ca9) ((hxs os).length) (intC (hxs os)) :: T) := by rw [cur_next ho, if_neg (show ¬ big o = true from by show ¬ decide (16 < ((o.ws.length : Nat) : Int)) = true; rw [hb21]; simp), ← hq]; exact hM
     refine hK6 _ _ _ (by omega) ⟨i + 1, q + o.ws.length, rfl, ⟨by omega, by rw [hqn, if_neg (show ¬ big o = true from by show ¬ decide (16 < ((o.ws.length : Nat) : Int)) = true; rw [hb21]; simp), hq]⟩, hA.keep _ ⟨rfl, rfl, rfl, rfl, rfl, rfl, trivial⟩, hM⟩
 · have hb9' := of_decide_eq_false hb9
   refine seq_do (v := .bool false) hA rfl rfl rfl (does_bin rfl rfl (fun w => (bin_lss w).trans (by rw [hb9]))) ?_
   intro a hA
   refine seq_end ?_
   refine hK8 _ _ ?_
   refine wp_seq_k (fun K30 hK30 => ?_)
   refine wp_cond_false (hA.ev rfl) ?_
   refine wp_exit ?_
   refine hnorm _ _ ?_
   refine ends (v := .tuple #[]) hA rfl .nil rfl ?_
   replace hM : Mg w0 w5 (.row 96 2 (.slice lg gl.length lc) gl.length (gapC gl) :: .obj h (.cells #[.map (some m), .int .i64 (((last : Nat) : Int)), .int .i64 (((ss : Nat) : Int)), .slice sg gs.length sc, .int .i64 (((ls : Nat) : Int)), .slice lg gl.length lc] 73) :: .obj m (mapO ((cur os i).map Ob.en) last) :: .row 96 2 (.slice sg gs.length sc) gs.length (gapC gs) :: .row 3 1 (.slice so9 ((hxs os).length) ca9) ((hxs os).length) (intC (hxs os)) :: T) := hM.bring 3 rfl rfl
   replace hM : Mg w0 w5 (.row 96 2 (.slice sg gs.length sc) gs.length (gapC gs) :: .row 96 2 (.slice lg gl.length lc) gl.length (gapC gl) :: .obj h (.cells #[.map (some m), .int .i64 (((last : Nat) : Int)), .int .i64 (((ss : Nat) : Int)), .slice sg gs.length sc, .int .i64 (((ls : Nat) : Int)), .slice lg gl.length lc] 73) :: .obj m (mapO ((cur os i).map Ob.en) last) :: .row 3 1 (.slice so9 ((hxs os).length) ca9) ((hxs os).length) (intC (hxs os)) :: T) := hM.bring 3 rfl rfl
   replace hM : Mg w0 w5 (.obj m (mapO ((cur os i).map Ob.en) last) :: .row 96 2 (.slice sg gs.length sc) gs.length (gapC gs) :: .row 96 2 (.slice lg gl.length lc) gl.length (gapC gl) :: .obj h (.cells #[.map (some m), .int .i64 (((last : Nat) : Int)), .int .i64 (((ss : Nat) : Int)), .slice sg gs.length sc, .int .i64 (((ls : Nat) : Int)), .slice lg gl.length lc] 73) :: .row 3 1 (.slice so9 ((hxs os).length) ca9) ((hxs os).length) (intC (hxs os)) :: T) := hM.bring 3 rfl rfl
   replace hM : Mg w0 w5 (.obj h (.cells #[.map (some m), .int .i64 (((last : Nat) : Int)), .int .i64 (((ss : Nat) : Int)), .slice sg gs.length sc, .int .i64 (((ls : Nat) : Int)), .slice lg gl.length lc] 73) :: .obj m (mapO ((cur os i).map Ob.en) last) :: .row 96 2 (.slice sg gs.length sc) gs.length (gapC gs) :: .row 96 2 (.slice lg gl.length lc) gl.length (gapC gl) :: .row 3 1 (.slice so9 ((hxs os).length) ca9) ((hxs os).length) (intC (hxs os)) :: T) := hM.bring 3 rfl rfl
   replace hM : Mg w0 w5 (.obj h (.cells #[.map (some m), .int .i64 (((last : Nat) : Int)), .int .i64 (((ss : Nat) : Int)), .slice sg gs.length sc, .int .i64 (((ls : Nat) : Int)), .slice lg gl.length lc] 73) :: .obj m (mapO ((cur os i).map Ob.en) last) :: .row 96 2 (.slice sg gs.length sc) gs.length (gapC gs) :: .row 96 2 (.slice lg gl.length lc) gl.length (gapC gl) :: T) := by
     have h9 := hM.sub (.cons_cons _ (.cons_cons _ (.cons_cons _ (.cons_cons _ (.cons _ (.refl _))))))
     exact h9
   rw [cur_all (by omega)] at hM
   exact ⟨rfl, hM⟩
end Go.Proofs.Ytcigofjajphmjaa
