/- Walks of what stands, of what is laid free, and of Collect. -/
import Derived.Test.YtcigofjajphmjaaHbG
namespace Go.Proofs.Ytcigofjajphmjaa
open Go.RowKit
set_option linter.unusedVariables false
set_option linter.unusedSimpArgs false
set_option maxRecDepth 100000
theorem HbH_is1_3 : Is1 Try.prog 3 := ⟨⟨_, Try.underlying3, rfl⟩, by kernel_rfl⟩
theorem HbH_is1_59 : Is1 Try.prog 59 := ⟨⟨_, Try.underlying59, rfl⟩, by kernel_rfl⟩
theorem HbH_is1_67 : Is1 Try.prog 67 := ⟨⟨_, Try.underlying67, rfl⟩, by kernel_rfl⟩
theorem HbH_is1_68 : Is1 Try.prog 68 := ⟨⟨_, Try.underlying68, rfl⟩, by kernel_rfl⟩
theorem HbH_fld_70_0 : FieldAt Try.prog 70 0 0 := ⟨_, _, Try.underlying70, rfl, rfl, by kernel_rfl⟩
theorem HbH_fld_70_1 : FieldAt Try.prog 70 1 1 := ⟨_, _, Try.underlying70, rfl, rfl, by kernel_rfl⟩
theorem HbH_fld_73_0 : FieldAt Try.prog 73 0 0 := ⟨_, _, Try.underlying73, rfl, rfl, by kernel_rfl⟩
theorem HbH_fld_79_0 : FieldAt Try.prog 79 0 0 := ⟨_, _, Try.underlying79, rfl, rfl, by kernel_rfl⟩
theorem HbH_fld_79_1 : FieldAt Try.prog 79 1 1 := ⟨_, _, Try.underlying79, rfl, rfl, by kernel_rfl⟩
theorem HbH_isS_79 : IsS Try.prog 79 2 := ⟨⟨_, Try.underlying79⟩, by kernel_rfl⟩
theorem standing_false {w0 w : World} {h m last ss ls sc lc : Nat} {sg lg : Option Addr} {gs gl : List (Nat × Nat)} {os : List Ob} {T : List Ck} (hx : Hx os last) (hol : os.length ≤ 1000000) (hcl : ∀ o ∈ os, o.ws.length ≤ 1000000) (hpp : ∀ o ∈ os, o.p ≤ 65536) (hnT : noBld T) (hM0 : Mg w0 w (.obj h (.cells #[.map (some m), .int .i64 (((last : Nat) : Int)), .int .i64 (((ss : Nat) : Int)), .slice sg gs.length sc, .int .i64 (((ls : Nat) : Int)), .slice lg gl.length lc] 73) :: .obj m (mapO (os.map Ob.en) last) :: .row 96 2 (.slice sg gs.length sc) gs.length (gapC gs) :: .row 96 2 (.slice lg gl.length lc) gl.length (gapC gl) :: T)) : Calls Try.prog 39 #[.pointer (some ⟨h, 0, none⟩), .bool false] w fun e w' => ∃ so' ca' zs, e = .returned (.slice so' (zs : List Ob).length ca') ∧ (zs.Perm (os.filter (stP false)) ∧ ByP zs) ∧ Mg w0 w' (.obj h (.cells #[.map (some m), .int .i64 (((last : Nat) : Int)), .int .i64 (((ss : Nat) : Int)), .slice sg gs.length sc, .int .i64 (((ls : Nat) : Int)), .slice lg gl.length lc] 73) :: .obj m (mapO (os.map Ob.en) last) :: .row 96 2 (.slice sg gs.length sc) gs.length (gapC gs) :: .row 96 2 (.slice lg gl.length lc) gl.length (gapC gl) :: .row 79 2 (.slice so' zs.length ca') zs.length (obC zs) :: T) := by
 have hM : Mg w0 w (.obj h (.cells #[.map (some m), .int .i64 (((last : Nat) : Int)), .int .i64 (((ss : Nat) : Int)), .slice sg gs.length sc, .int .i64 (((ls : Nat) : Int)), .slice lg gl.length lc] 73) :: .obj m (mapO (os.map Ob.en) last) :: .row 96 2 (.slice sg gs.length sc) gs.length (gapC gs) :: .row 96 2 (.slice lg gl.length lc) gl.length (gapC gl) :: T) := hM0
 refine walk_of (l := [(0, .pointer (some ⟨h, 0, none⟩)), (1, .bool false)]) Try.func39 rfl Try.ntmps39 rfl rfl ?_
 intro Q hret hnorm hP a hA
 refine wp_seq_k (fun K1 hK1 => ?_)
 refine wp_region_lit ?_
 refine seq_do hA rfl rfl rfl (does_assign rfl) ?_
 intro a hA
 refine seq_end ?_
 refine hK1 _ _ ?_
 refine wp_seq_k (fun K2 hK2 => ?_)
 refine wp_region_lit ?_
 refine seq_do hA rfl rfl rfl (does_assign rfl) ?_
 intro a hA
 refine seq_end ?_
 refine hK2 _ _ ?_
 refine wp_seq_k (fun K3 hK3 => ?_)
 refine wp_seq_k (fun K4 hK4 => ?_)
 refine wp_region_lit ?_
 refine seq_do hA rfl rfl rfl (does_move rfl) ?_
 intro a hA
 refine seq_do hA rfl rfl rfl (does_nilq rfl) ?_
 intro a hA
 refine seq_do (v := .pointer (some ⟨h, 0, none⟩)) hA rfl rfl rfl (does_field HbH_fld_73_0 rfl rfl) ?_
 intro a hA
 refine seq_do hA rfl rfl rfl (m_load1 hM HbH_is1_67 rfl 0 rfl rfl) ?_
 intro a hA
 refine s_rangeM hA hM rfl Try.underlying67 rfl 1 rfl rfl rfl rfl ?_
 intro r5 w6 hM a hA
 replace hM : Mg w0 w6 (.obj r5 (.mapIter (some m) last ([]).toArray last) :: .obj h (.cells #[.map (some m), .int .i64 (((last : Nat) : Int)), .int .i64 (((ss : Nat) : Int)), .slice sg gs.length sc, .int .i64 (((ls : Nat) : Int)), .slice lg gl.length lc] 73) :: .obj m (mapO (os.map Ob.en) last) :: .row 96 2 (.slice sg gs.length sc) gs.length (gapC gs) :: .row 96 2 (.slice lg gl.length lc) gl.length (gapC gl) :: T) := hM
 refine seq_end ?_
 refine hK4 _ _ ?_
 refine wp_block ?_
 replace hM := hM.nilRowH (noBld_cons (by simp) (noBld_cons (by simp) (noBld_cons (by simp) (noBld_cons (by simp) (noBld_cons (by simp) hnT))))) 79 2
 replace hM : Mg w0 w6 (.obj r5 (.mapIter (some m) last ([]).toArray last) :: .row 79 2 (.slice none 0 0) 0 (obC []) :: .obj h (.cells #[.map (some m), .int .i64 (((last : Nat) : Int)), .int .i64 (((ss : Nat) : Int)), .slice sg gs.length sc, .int .i64 (((ls : Nat) : Int)), .slice lg gl.length lc] 73) :: .obj m (mapO (os.map Ob.en) last) :: .row 96 2 (.slice sg gs.length sc) gs.length (gapC gs) :: .row 96 2 (.slice lg gl.length lc) gl.length (gapC gl) :: T) := hM.bring 1 rfl rfl
 replace hM : Mg w0 w6 (.row 79 2 (.slice none 0 0) 0 (obC []) :: .obj r5 (.mapIter (some m) last ([]).toArray last) :: .obj h (.cells #[.map (some m), .int .i64 (((last : Nat) : Int)), .int .i64 (((ss : Nat) : Int)), .slice sg gs.length sc, .int .i64 (((ls : Nat) : Int)), .slice lg gl.length lc] 73) :: .obj m (mapO (os.map Ob.en) last) :: .row 96 2 (.slice sg gs.length sc) gs.length (gapC gs) :: .row 96 2 (.slice lg gl.length lc) gl.length (gapC gl) :: T) := hM.bring 1 rfl rfl
 replace hM : Mg w0 w6 (.row 96 2 (.slice lg gl.length lc) gl.length (gapC gl) :: .row 79 2 (.slice none 0 0) 0 (obC []) :: .obj r5 (.mapIter (some m) last ([]).toArray last) :: .obj h (.cells #[.map (some m), .int .i64 (((last : Nat) : Int)), .int .i64 (((ss : Nat) : Int)), .slice sg gs.length sc, .int .i64 (((ls : Nat) : Int)), .slice lg gl.length lc] 73) :: .obj m (mapO (os.map Ob.en) last) :: .row 96 2 (.slice sg gs.length sc) gs.length (gapC gs) :: T) := hM.bring 5 rfl rfl
 replace hM : Mg w0 w6 (.row 96 2 (.slice sg gs.length sc) gs.length (gapC gs) :: .row 96 2 (.slice lg gl.length lc) gl.length (gapC gl) :: .row 79 2 (.slice none 0 0) 0 (obC []) :: .obj r5 (.mapIter (some m) last ([]).toArray last) :: .obj h (.cells #[.map (some m), .int .i64 (((last : Nat) : Int)), .int .i64 (((ss : Nat) : Int)), .slice sg gs.length sc, .int .i64 (((ls : Nat) : Int)), .slice lg gl.length lc] 73) :: .obj m (mapO (os.map Ob.en) last) :: T) := hM.bring 5 rfl rfl
 replace hM : Mg w0 w6 (.obj m (mapO (os.map Ob.en) last) :: .row 96 2 (.slice sg gs.length sc) gs.length (gapC gs) :: .row 96 2 (.slice lg gl.length lc) gl.length (gapC gl) :: .row 79 2 (.slice none 0 0) 0 (obC []) :: .obj r5 (.mapIter (some m) last ([]).toArray last) :: .obj h (.cells #[.map (some m), .int .i64 (((last : Nat) : Int)), .int .i64 (((ss : Nat) : Int)), .slice sg gs.length sc, .int .i64 (((ls : Nat) : Int)), .slice lg gl.length lc] 73) :: T) := hM.bring 5 rfl rfl
 replace hM : Mg w0 w6 (.obj h (.cells #[.map (some m), .int .i64 (((last : Nat) : Int)), .int .i64 (((ss : Nat) : Int)), .slice sg gs.length sc, .int .i64 (((ls : Nat) : Int)), .slice lg gl.length lc] 73) :: .obj m (mapO (os.map Ob.en) last) :: .row 96 2 (.slice sg gs.length sc) gs.length (gapC gs) :: .row 96 2 (.slice lg gl.length lc) gl.length (gapC gl) :: .row 79 2 (.slice none 0 0) 0 (obC []) :: .obj r5 (.mapIter (some m) last ([]).toArray last) :: T) := hM.bring 5 rfl rfl
 refine wp_loop_n (fun m_ a w1 => ∃ (seen : List Nat) (ys : List Ob) (so_ : Option Addr) (ca_ : Nat) (nk : Nat), m_ = 1 + (unseen seen os).length ∧ (ys.Perm (came (stP false) seen os) ∧ nk = ys.length) ∧ Sl a 30 [(0, .pointer (some ⟨h, 0, none⟩)), (1, .bool false), (4, .slice none 0 0), (5, .slice so_ nk ca_), (8, .pointer (some ⟨h, 0, none⟩)), (9, .pointer (some ⟨h, 0, none⟩)), (10, .pointer (some ⟨h, 0, none⟩)), (11, .map (some m)), (12, .pointer (some ⟨r5, 0, none⟩))] ∧ Mg w0 w1 (.obj h (.cells #[.map (some m), .int .i64 (((last : Nat) : Int)), .int .i64 (((ss : Nat) : Int)), .slice sg gs.length sc, .int .i64 (((ls : Nat) : Int)), .slice lg gl.length lc] 73) :: .obj m (mapO (os.map Ob.en) last) :: .row 96 2 (.slice sg gs.length sc) gs.length (gapC gs) :: .row 96 2 (.slice lg gl.length lc) gl.length (gapC gl) :: .row 79 2 (.slice so_ nk ca_) nk (obC ys) :: .obj r5 (.mapIter (some m) last seen.toArray last) :: T)) _ ⟨[], [], none, 0, 0, rfl, ⟨(by rw [came_nil]), rfl⟩, hA.keep _ ⟨rfl, rfl, rfl, rfl, rfl, rfl, rfl, rfl, rfl, trivial⟩, hM⟩ ?_
 clear hM hA
 rintro m_ a w7 ⟨seen, ys, so_, ca_, nk, rfl, hinv9, hA, hM⟩ K8 hK8
 obtain ⟨hk, hnk⟩ := hinv9
 have hkl := stand_len hk
 refine wp_seq_k (fun K10 hK10 => ?_)
 refine wp_region_lit ?_
 refine s_nextM (seen := seen) (L' := fun e11 => (.obj h (.cells #[.map (some m), .int .i64 (((last : Nat) : Int)), .int .i64 (((ss : Nat) : Int)), .slice sg gs.length sc, .int .i64 (((ls : Nat) : Int)), .slice lg gl.length lc] 73) :: .obj m (mapO (os.map Ob.en) last) :: .row 96 2 (.slice sg gs.length sc) gs.length (gapC gs) :: .row 96 2 (.slice lg gl.length lc) gl.length (gapC gl) :: .row 79 2 (.slice so_ nk ca_) nk (obC ys) :: .obj r5 (.mapIter (some m) last ((seen ++ [e11.b])).toArray last) :: T)) hA hM rfl rfl 5 1 rfl rfl hx.old (Nat.le_refl _) rfl rfl rfl (fun _ => rfl) ?_ ?_
 · intro hz16 a hA
   rw [leftE_os] at hz16
   replace hz16 := List.map_eq_nil_iff.1 hz16
   refine seq_do (v := .bool false) hA rfl rfl rfl (does_extract (vs := [.bool false]) rfl rfl) ?_
   intro a hA
   refine seq_end ?_
   refine hK10 _ _ ?_
   refine wp_seq_k (fun K17 hK17 => ?_)
   refine wp_cond_false (hA.ev rfl) ?_
   refine wp_exit ?_
   refine hK3 _ _ ?_
   refine wp_seq_k (fun K18 hK18 => ?_)
   refine wp_region_lit ?_
   refine seq_do hA rfl rfl rfl (does_move rfl) ?_
   intro a hA
   replace hM : Mg w0 w7 (.row 79 2 (.slice so_ nk ca_) nk (obC ys) :: .obj h (.cells #[.map (some m), .int .i64 (((last : Nat) : Int)), .int .i64 (((ss : Nat) : Int)), .slice sg gs.length sc, .int .i64 (((ls : Nat) : Int)), .slice lg gl.length lc] 73) :: .obj m (mapO (os.map Ob.en) last) :: .row 96 2 (.slice sg gs.length sc) gs.length (gapC gs) :: .row 96 2 (.slice lg gl.length lc) gl.length (gapC gl) :: .obj r5 (.mapIter (some m) last seen.toArray last) :: T) := hM.bring 4 rfl rfl
   have hpm := hk
   rw [came_end hz16] at hpm
   refine seq_call hA rfl rfl rfl (enters_func rfl rfl (fun w => by kernel_rfl)) (sortO_any hnk (fun o ho => hpp o (List.mem_filter.1 (hpm.mem_iff.1 ho)).1) (by omega) hM) ?_
   rintro _ w20 ⟨rfl, zs, ⟨hzp, hzb⟩, hM19⟩
   replace hM : Mg w0 w20 (.row 79 2 (.slice so_ nk ca_) nk (obC zs) :: .obj h (.cells #[.map (some m), .int .i64 (((last : Nat) : Int)), .int .i64 (((ss : Nat) : Int)), .slice sg gs.length sc, .int .i64 (((ls : Nat) : Int)), .slice lg gl.length lc] 73) :: .obj m (mapO (os.map Ob.en) last) :: .row 96 2 (.slice sg gs.length sc) gs.length (gapC gs) :: .row 96 2 (.slice lg gl.length lc) gl.length (gapC gl) :: .obj r5 (.mapIter (some m) last seen.toArray last) :: T) := hM19
   refine ⟨_, rfl, ?_⟩
   intro a hA
   refine seq_end ?_
   refine hK18 _ _ ?_
   refine wp_seq_k (fun K21 hK21 => ?_)
   refine wp_region_lit ?_
   refine seq_do hA rfl rfl rfl (does_move rfl) ?_
   intro a hA
   refine seq_do hA rfl rfl rfl (does_assign rfl) ?_
   intro a hA
   refine seq_end ?_
   refine hK21 _ _ ?_
   refine wp_ret ?_
   refine hret _ _ ?_
   refine ends (v := .slice so_ nk ca_) hA rfl (.cons (res_tmp rfl) .nil) rfl ?_
   replace hM : Mg w0 w20 (.row 96 2 (.slice lg gl.length lc) gl.length (gapC gl) :: .row 79 2 (.slice so_ nk ca_) nk (obC zs) :: .obj h (.cells #[.map (some m), .int .i64 (((last : Nat) : Int)), .int .i64 (((ss : Nat) : Int)), .slice sg gs.length sc, .int .i64 (((ls : Nat) : Int)), .slice lg gl.length lc] 73) :: .obj m (mapO (os.map Ob.en) last) :: .row 96 2 (.slice sg gs.length sc) gs.length (gapC gs) :: .obj r5 (.mapIter (some m) last seen.toArray last) :: T) := hM.bring 4 rfl rfl
   replace hM : Mg w0 w20 (.row 96 2 (.slice sg gs.length sc) gs.length (gapC gs) :: .row 96 2 (.slice lg gl.length lc) gl.length (gapC gl) :: .row 79 2 (.slice so_ nk ca_) nk (obC zs) :: .obj h (.cells #[.map (some m), .int .i64 (((last : Nat) : Int)), .int .i64 (((ss : Nat) : Int)), .slice sg gs.length sc, .int .i64 (((ls : Nat) : Int)), .slice lg gl.length lc] 73) :: .obj m (mapO (os.map Ob.en) last) :: .obj r5 (.mapIter (some m) last seen.toArray last) :: T) := hM.bring 4 rfl rfl
   replace hM : Mg w0 w20 (.obj m (mapO (os.map Ob.en) last) :: .row 96 2 (.slice sg gs.length sc) gs.length (gapC gs) :: .row 96 2 (.slice lg gl.length lc) gl.length (gapC gl) :: .row 79 2 (.slice so_ nk ca_) nk (obC zs) :: .obj h (.cells #[.map (some m), .int .i64 (((last : Nat) : Int)), .int .i64 (((ss : Nat) : Int)), .slice sg gs.length sc, .int .i64 (((ls : Nat) : Int)), .slice lg gl.length lc] 73) :: .obj r5 (.mapIter (some m) last seen.toArray last) :: T) := hM.bring 4 rfl rfl
   replace hM : Mg w0 w20 (.obj h (.cells #[.map (some m), .int .i64 (((last : Nat) : Int)), .int .i64 (((ss : Nat) : Int)), .slice sg gs.length sc, .int .i64 (((ls : Nat) : Int)), .slice lg gl.length lc] 73) :: .obj m (mapO (os.map Ob.en) last) :: .row 96 2 (.slice sg gs.length sc) gs.length (gapC gs) :: .row 96 2 (.slice lg gl.length lc) gl.length (gapC gl) :: .row 79 2 (.slice so_ nk ca_) nk (obC zs) :: .obj r5 (.mapIter (some m) last seen.toArray last) :: T) := hM.bring 4 rfl rfl
   replace hM : Mg w0 w20 (.obj h (.cells #[.map (some m), .int .i64 (((last : Nat) : Int)), .int .i64 (((ss : Nat) : Int)), .slice sg gs.length sc, .int .i64 (((ls : Nat) : Int)), .slice lg gl.length lc] 73) :: .obj m (mapO (os.map Ob.en) last) :: .row 96 2 (.slice sg gs.length sc) gs.length (gapC gs) :: .row 96 2 (.slice lg gl.length lc) gl.length (gapC gl) :: .row 79 2 (.slice so_ nk ca_) nk (obC zs) :: T) := by
     have h9 := hM.sub (.cons_cons _ (.cons_cons _ (.cons_cons _ (.cons_cons _ (.cons_cons _ (.cons _ (.refl _)))))))
     exact h9
   have e9 : nk = zs.length := by rw [hnk, hzp.length_eq]
   rw [e9] at hM
   exact ⟨_, _, zs, by rw [e9], ⟨hzp.trans hpm, hzb⟩, hM⟩
 · intro e11 he12 w13 hM a hA
   rw [leftE_os] at he12
   obtain ⟨o, ho, rfl⟩ := List.mem_map.1 he12
   replace hM : Mg w0 w13 (.obj h (.cells #[.map (some m), .int .i64 (((last : Nat) : Int)), .int .i64 (((ss : Nat) : Int)), .slice sg gs.length sc, .int .i64 (((ls : Nat) : Int)), .slice lg gl.length lc] 73) :: .obj m (mapO (os.map Ob.en) last) :: .row 96 2 (.slice sg gs.length sc) gs.length (gapC gs) :: .row 96 2 (.slice lg gl.length lc) gl.length (gapC gl) :: .row 79 2 (.slice so_ nk ca_) nk (obC ys) :: .obj r5 (.mapIter (some m) last ((seen ++ [o.x - 1])).toArray last) :: T) := hM
   have homem : o ∈ os := (List.mem_filter.1 ho).1
   have hol1 := hcl o homem
   refine seq_do (v := .bool true) hA rfl rfl rfl (does_extract (vs := [.bool true, .int .i64 (((o.x : Nat) : Int)), .agg #[.int .i64 (((o.p : Nat) : Int)), .slice (some ⟨o.g, 0, none⟩) o.ws.length o.c]]) rfl rfl) ?_
   intro a hA
   refine seq_end ?_
   refine hK10 _ _ ?_
   refine wp_seq_k (fun K22 hK22 => ?_)
   refine wp_cond_true (hA.ev rfl) ?_
   refine wp_skip ?_
   refine hK22 _ _ ?_
   refine wp_block ?_
   refine wp_seq_k (fun K23 hK23 => ?_)
   refine wp_region_lit ?_
   refine seq_do (v := .tuple #[.int .i64 (((o.x : Nat) : Int)), .agg #[.int .i64 (((o.p : Nat) : Int)), .slice (some ⟨o.g, 0, none⟩) o.ws.length o.c]]) hA rfl rfl rfl (m_entry (e := o.en) (seen := seen) hM rfl 5 1 rfl rfl (List.mem_map.2 ⟨o, homem, rfl⟩) hx.nodup) ?_
   intro a hA
   refine seq_do (v := .agg #[.int .i64 (((o.p : Nat) : Int)), .slice (some ⟨o.g, 0, none⟩) o.ws.length o.c]) hA rfl rfl rfl (does_extract (vs := [.int .i64 (((o.x : Nat) : Int)), .agg #[.int .i64 (((o.p : Nat) : Int)), .slice (some ⟨o.g, 0, none⟩) o.ws.length o.c]]) rfl rfl) ?_
   intro a hA
   refine s_new (vs := [.int .i64 0, .slice none 0 0]) (t := 79) hA hM rfl rfl rfl (fun g => .pointer (some ⟨g, 0, none⟩)) (does_alloc (z := .agg #[.int .i64 0, .slice none 0 0]) (by kernel_rfl) rfl) (by decide) ?_
   intro g24 w25 hM a hA
   refine s_store (us := [.int .i64 (((o.p : Nat) : Int)), .slice (some ⟨o.g, 0, none⟩) o.ws.length o.c]) (L' := (.obj g24 (.cells #[.int .i64 (((o.p : Nat) : Int)), .slice (some ⟨o.g, 0, none⟩) o.ws.length o.c] 79) :: .obj h (.cells #[.map (some m), .int .i64 (((last : Nat) : Int)), .int .i64 (((ss : Nat) : Int)), .slice sg gs.length sc, .int .i64 (((ls : Nat) : Int)), .slice lg gl.length lc] 73) :: .obj m (mapO (os.map Ob.en) last) :: .row 96 2 (.slice sg gs.length sc) gs.length (gapC gs) :: .row 96 2 (.slice lg gl.length lc) gl.length (gapC gl) :: .row 79 2 (.slice so_ nk ca_) nk (obC ys) :: .obj r5 (.mapIter (some m) last ((seen ++ [o.x - 1])).toArray last) :: T)) hA hM rfl rfl (m_store rfl rfl rfl (by kernel_rfl) hM 0 rfl rfl rfl) 0 rfl rfl rfl ?_
   intro w26 hM
   refine seq_end ?_
   refine hK23 _ _ ?_
   refine wp_seq_k (fun K27 hK27 => ?_)
   refine wp_region_lit ?_
   refine seq_do (v := .pointer (some ⟨g24, 1, none⟩)) hA rfl rfl rfl (does_field HbH_fld_79_1 rfl rfl) ?_
   intro a hA
   refine seq_do hA rfl rfl rfl (m_load1 hM HbH_is1_59 rfl 0 rfl rfl) ?_
   intro a hA
   refine seq_do (v := .int .i64 (((o.ws.length : Nat) : Int))) hA rfl rfl rfl (does_len Try.underlying59 rfl) ?_
   intro a hA
   rcases Bool.eq_false_or_eq_true (decide (16 < ((o.ws.length : Nat) : Int))) with hb28 | hb28
   · have hb28' := of_decide_eq_true hb28
     refine seq_call hA rfl rfl rfl (enters_func rfl rfl (fun w => by kernel_rfl)) ((hb28 ▸ large_any)) ?_
     rintro _ w30 ⟨rfl, hb29⟩
     replace hM := hM.call hb29
     refine ⟨_, rfl, ?_⟩
     intro a hA
     refine seq_do hA rfl rfl rfl (does_move rfl) ?_
     intro a hA
     refine seq_do (v := .bool false) hA rfl rfl rfl (does_bin rfl rfl (bin_eqlB Try.underlying4)) ?_
     intro a hA
     refine seq_end ?_
     refine hK27 _ _ ?_
     refine wp_cond_false (hA.ev rfl) ?_
     refine wp_skip ?_
     replace hM : Mg w0 w30 (.obj r5 (.mapIter (some m) last ((seen ++ [o.x - 1])).toArray last) :: .obj g24 (.cells #[.int .i64 (((o.p : Nat) : Int)), .slice (some ⟨o.g, 0, none⟩) o.ws.length o.c] 79) :: .obj h (.cells #[.map (some m), .int .i64 (((last : Nat) : Int)), .int .i64 (((ss : Nat) : Int)), .slice sg gs.length sc, .int .i64 (((ls : Nat) : Int)), .slice lg gl.length lc] 73) :: .obj m (mapO (os.map Ob.en) last) :: .row 96 2 (.slice sg gs.length sc) gs.length (gapC gs) :: .row 96 2 (.slice lg gl.length lc) gl.length (gapC gl) :: .row 79 2 (.slice so_ nk ca_) nk (obC ys) :: T) := hM.bring 6 rfl rfl
     replace hM : Mg w0 w30 (.row 79 2 (.slice so_ nk ca_) nk (obC ys) :: .obj r5 (.mapIter (some m) last ((seen ++ [o.x - 1])).toArray last) :: .obj g24 (.cells #[.int .i64 (((o.p : Nat) : Int)), .slice (some ⟨o.g, 0, none⟩) o.ws.length o.c] 79) :: .obj h (.cells #[.map (some m), .int .i64 (((last : Nat) : Int)), .int .i64 (((ss : Nat) : Int)), .slice sg gs.length sc, .int .i64 (((ls : Nat) : Int)), .slice lg gl.length lc] 73) :: .obj m (mapO (os.map Ob.en) last) :: .row 96 2 (.slice sg gs.length sc) gs.length (gapC gs) :: .row 96 2 (.slice lg gl.length lc) gl.length (gapC gl) :: T) := hM.bring 6 rfl rfl
     replace hM : Mg w0 w30 (.row 96 2 (.slice lg gl.length lc) gl.length (gapC gl) :: .row 79 2 (.slice so_ nk ca_) nk (obC ys) :: .obj r5 (.mapIter (some m) last ((seen ++ [o.x - 1])).toArray last) :: .obj g24 (.cells #[.int .i64 (((o.p : Nat) : Int)), .slice (some ⟨o.g, 0, none⟩) o.ws.length o.c] 79) :: .obj h (.cells #[.map (some m), .int .i64 (((last : Nat) : Int)), .int .i64 (((ss : Nat) : Int)), .slice sg gs.length sc, .int .i64 (((ls : Nat) : Int)), .slice lg gl.length lc] 73) :: .obj m (mapO (os.map Ob.en) last) :: .row 96 2 (.slice sg gs.length sc) gs.length (gapC gs) :: T) := hM.bring 6 rfl rfl
     replace hM : Mg w0 w30 (.row 96 2 (.slice sg gs.length sc) gs.length (gapC gs) :: .row 96 2 (.slice lg gl.length lc) gl.length (gapC gl) :: .row 79 2 (.slice so_ nk ca_) nk (obC ys) :: .obj r5 (.mapIter (some m) last ((seen ++ [o.x - 1])).toArray last) :: .obj g24 (.cells #[.int .i64 (((o.p : Nat) : Int)), .slice (some ⟨o.g, 0, none⟩) o.ws.length o.c] 79) :: .obj h (.cells #[.map (some m), .int .i64 (((last : Nat) : Int)), .int .i64 (((ss : Nat) : Int)), .slice sg gs.length sc, .int .i64 (((ls : Nat) : Int)), .slice lg gl.length lc] 73) :: .obj m (mapO (os.map Ob.en) last) :: T) := hM.bring 6 rfl rfl
     replace hM : Mg w0 w30 (.obj m (mapO (os.map Ob.en) last) :: .row 96 2 (.slice sg gs.length sc) gs.length (gapC gs) :: .row 96 2 (.slice lg gl.length lc) gl.length (gapC gl) :: .row 79 2 (.slice so_ nk ca_) nk (obC ys) :: .obj r5 (.mapIter (some m) last ((seen ++ [o.x - 1])).toArray last) :: .obj g24 (.cells #[.int .i64 (((o.p : Nat) : Int)), .slice (some ⟨o.g, 0, none⟩) o.ws.length o.c] 79) :: .obj h (.cells #[.map (some m), .int .i64 (((last : Nat) : Int)), .int .i64 (((ss : Nat) : Int)), .slice sg gs.length sc, .int .i64 (((ls : Nat) : Int)), .slice lg gl.length lc] 73) :: T) := hM.bring 6 rfl rfl
     replace hM : Mg w0 w30 (.obj h (.cells #[.map (some m), .int .i64 (((last : Nat) : Int)), .int .i64 (((ss : Nat) : Int)), .slice sg gs.length sc, .int .i64 (((ls : Nat) : Int)), .slice lg gl.length lc] 73) :: .obj m (mapO (os.map Ob.en) last) :: .row 96 2 (.slice sg gs.length sc) gs.length (gapC gs) :: .row 96 2 (.slice lg gl.length lc) gl.length (gapC gl) :: .row 79 2 (.slice so_ nk ca_) nk (obC ys) :: .obj r5 (.mapIter (some m) last ((seen ++ [o.x - 1])).toArray last) :: .obj g24 (.cells #[.int .i64 (((o.p : Nat) : Int)), .slice (some ⟨o.g, 0, none⟩) o.ws.length o.c] 79) :: T) := hM.bring 6 rfl rfl
     replace hM : Mg w0 w30 (.obj h (.cells #[.map (some m), .int .i64 (((last : Nat) : Int)), .int .i64 (((ss : Nat) : Int)), .slice sg gs.length sc, .int .i64 (((ls : Nat) : Int)), .slice lg gl.length lc] 73) :: .obj m (mapO (os.map Ob.en) last) :: .row 96 2 (.slice sg gs.length sc) gs.length (gapC gs) :: .row 96 2 (.slice lg gl.length lc) gl.length (gapC gl) :: .row 79 2 (.slice so_ nk ca_) nk (obC ys) :: .obj r5 (.mapIter (some m) last ((seen ++ [o.x - 1])).toArray last) :: T) := by
       have h9 := hM.sub (.cons_cons _ (.cons_cons _ (.cons_cons _ (.cons_cons _ (.cons_cons _ (.cons_cons _ (.cons _ (.refl _))))))))
       exact h9
     refine hK8 _ _ _ (by have := unseen_less hx.lo ho; omega) ⟨seen ++ [o.x - 1], ys, so_, ca_, nk, rfl, ⟨by rw [came_no hx.lo hx.rise ho (by show (decide (16 < ((o.ws.length : Nat) : Int)) == false) = false; rw [hb28]; rfl)]; exact hk, hnk⟩, hA.keep _ ⟨rfl, rfl, rfl, rfl, rfl, rfl, rfl, rfl, rfl, trivial⟩, hM⟩
   · have hb28' := of_decide_eq_false hb28
     refine seq_call hA rfl rfl rfl (enters_func rfl rfl (fun w => by kernel_rfl)) ((hb28 ▸ large_any)) ?_
     rintro _ w32 ⟨rfl, hb31⟩
     replace hM := hM.call hb31
     refine ⟨_, rfl, ?_⟩
     intro a hA
     refine seq_do hA rfl rfl rfl (does_move rfl) ?_
     intro a hA
     refine seq_do (v := .bool true) hA rfl rfl rfl (does_bin rfl rfl (bin_eqlB Try.underlying4)) ?_
     intro a hA
     refine seq_end ?_
     refine hK27 _ _ ?_
     refine wp_cond_true (hA.ev rfl) ?_
     refine wp_region_lit ?_
     refine seq_do hA rfl rfl rfl (does_move rfl) ?_
     intro a hA
     refine seq_do hA rfl rfl rfl (m_loadS hM HbH_isS_79 rfl 0 rfl (cs := [.int .i64 (((o.p : Nat) : Int)), .slice (some ⟨o.g, 0, none⟩) o.ws.length o.c]) rfl rfl) ?_
     intro a hA
     refine s_litE (e := 79) (sz := 2) (m := 1) (vs := obC [o]) hA hM rfl rfl rfl (does_buildSlice rfl (by kernel_rfl)) rfl rfl (.inl (by decide)) ?_
     intro g33 w34 hM a hA
     refine s_appendE (e := 79) (sz := 2) (k := 6) (q := nk) (m := 1) (xs := obC ys) (news := obC [o]) (L' := fun v35 => (.row 79 2 (.slice (some ⟨g33, 0, none⟩) 1 1) 1 (obC [o]) :: .obj g24 (.cells #[.int .i64 (((o.p : Nat) : Int)), .slice (some ⟨o.g, 0, none⟩) o.ws.length o.c] 79) :: .obj h (.cells #[.map (some m), .int .i64 (((last : Nat) : Int)), .int .i64 (((ss : Nat) : Int)), .slice sg gs.length sc, .int .i64 (((ls : Nat) : Int)), .slice lg gl.length lc] 73) :: .obj m (mapO (os.map Ob.en) last) :: .row 96 2 (.slice sg gs.length sc) gs.length (gapC gs) :: .row 96 2 (.slice lg gl.length lc) gl.length (gapC gl) :: .row 79 2 (v35) (nk + 1) (obC ys ++ obC [o]) :: .obj r5 (.mapIter (some m) last ((seen ++ [o.x - 1])).toArray last) :: T)) hA rfl rfl rfl (m_appendE (z := .agg #[.int .i64 0, .slice none 0 0]) (sz := 2) (by_ := 32) Try.underlying90 (by kernel_rfl) rfl rfl rfl hM 6 rfl rfl 0 rfl rfl rfl rfl (by omega)) (fun _ => rfl) ?_
     intro v35 w36 hM a hA
     replace hM : Mg w0 w36 (.row 79 2 (.slice (some ⟨g33, 0, none⟩) 1 1) 1 (obC [o]) :: .obj g24 (.cells #[.int .i64 (((o.p : Nat) : Int)), .slice (some ⟨o.g, 0, none⟩) o.ws.length o.c] 79) :: .obj h (.cells #[.map (some m), .int .i64 (((last : Nat) : Int)), .int .i64 (((ss : Nat) : Int)), .slice sg gs.length sc, .int .i64 (((ls : Nat) : Int)), .slice lg gl.length lc] 73) :: .obj m (mapO (os.map Ob.en) last) :: .row 96 2 (.slice sg gs.length sc) gs.length (gapC gs) :: .row 96 2 (.slice lg gl.length lc) gl.length (gapC gl) :: .row 79 2 (v35) (nk + 1) (obC (ys ++ [o])) :: .obj r5 (.mapIter (some m) last ((seen ++ [o.x - 1])).toArray last) :: T) := by rw [obC_append]; exact hM
     obtain ⟨so37, ca38, rfl⟩ := owns_anyH (hM.has 6 rfl)
     refine seq_do hA rfl rfl rfl (does_assign rfl) ?_
     intro a hA
     refine seq_end ?_
     replace hM : Mg w0 w36 (.obj r5 (.mapIter (some m) last ((seen ++ [o.x - 1])).toArray last) :: .row 79 2 (.slice (some ⟨g33, 0, none⟩) 1 1) 1 (obC [o]) :: .obj g24 (.cells #[.int .i64 (((o.p : Nat) : Int)), .slice (some ⟨o.g, 0, none⟩) o.ws.length o.c] 79) :: .obj h (.cells #[.map (some m), .int .i64 (((last : Nat) : Int)), .int .i64 (((ss : Nat) : Int)), .slice sg gs.length sc, .int .i64 (((ls : Nat) : Int)), .slice lg gl.length lc] 73) :: .obj m (mapO (os.map Ob.en) last) :: .row 96 2 (.slice sg gs.length sc) gs.length (gapC gs) :: .row 96 2 (.slice lg gl.length lc) gl.length (gapC gl) :: .row 79 2 (.slice so37 (nk + 1) ca38) (nk + 1) (obC (ys ++ [o])) :: T) := hM.bring 7 rfl rfl
     replace hM : Mg w0 w36 (.row 79 2 (.slice so37 (nk + 1) ca38) (nk + 1) (obC (ys ++ [o])) :: .obj r5 (.mapIter (some m) last ((seen ++ [o.x - 1])).toArray last) :: .row 79 2 (.slice (some ⟨g33, 0, none⟩) 1 1) 1 (obC [o]) :: .obj g24 (.cells #[.int .i64 (((o.p : Nat) : Int)), .slice (some ⟨o.g, 0, none⟩) o.ws.length o.c] 79) :: .obj h (.cells #[.map (some m), .int .i64 (((last : Nat) : Int)), .int .i64 (((ss : Nat) : Int)), .slice sg gs.length sc, .int .i64 (((ls : Nat) : Int)), .slice lg gl.length lc] 73) :: .obj m (mapO (os.map Ob.en) last) :: .row 96 2 (.slice sg gs.length sc) gs.length (gapC gs) :: .row 96 2 (.slice lg gl.length lc) gl.length (gapC gl) :: T) := hM.bring 7 rfl rfl
     replace hM : Mg w0 w36 (.row 96 2 (.slice lg gl.length lc) gl.length (gapC gl) :: .row 79 2 (.slice so37 (nk + 1) ca38) (nk + 1) (obC (ys ++ [o])) :: .obj r5 (.mapIter (some m) last ((seen ++ [o.x - 1])).toArray last) :: .row 79 2 (.slice (some ⟨g33, 0, none⟩) 1 1) 1 (obC [o]) :: .obj g24 (.cells #[.int .i64 (((o.p : Nat) : Int)), .slice (some ⟨o.g, 0, none⟩) o.ws.length o.c] 79) :: .obj h (.cells #[.map (some m), .int .i64 (((last : Nat) : Int)), .int .i64 (((ss : Nat) : Int)), .slice sg gs.length sc, .int .i64 (((ls : Nat) : Int)), .slice lg gl.length lc] 73) :: .obj m (mapO (os.map Ob.en) last) :: .row 96 2 (.slice sg gs.length sc) gs.length (gapC gs) :: T) := hM.bring 7 rfl rfl
     replace hM : Mg w0 w36 (.row 96 2 (.slice sg gs.length sc) gs.length (gapC gs) :: .row 96 2 (.slice lg gl.length lc) gl.length (gapC gl) :: .row 79 2 (.slice so37 (nk + 1) ca38) (nk + 1) (obC (ys ++ [o])) :: .obj r5 (.mapIter (some m) last ((seen ++ [o.x - 1])).toArray last) :: .row 79 2 (.slice (some ⟨g33, 0, none⟩) 1 1) 1 (obC [o]) :: .obj g24 (.cells #[.int .i64 (((o.p : Nat) : Int)), .slice (some ⟨o.g, 0, none⟩) o.ws.length o.c] 79) :: .obj h (.cells #[.map (some m), .int .i64 (((last : Nat) : Int)), .int .i64 (((ss : Nat) : Int)), .slice sg gs.length sc, .int .i64 (((ls : Nat) : Int)), .slice lg gl.length lc] 73) :: .obj m (mapO (os.map Ob.en) last) :: T) := hM.bring 7 rfl rfl
     replace hM : Mg w0 w36 (.obj m (mapO (os.map Ob.en) last) :: .row 96 2 (.slice sg gs.length sc) gs.length (gapC gs) :: .row 96 2 (.slice lg gl.length lc) gl.length (gapC gl) :: .row 79 2 (.slice so37 (nk + 1) ca38) (nk + 1) (obC (ys ++ [o])) :: .obj r5 (.mapIter (some m) last ((seen ++ [o.x - 1])).toArray last) :: .row 79 2 (.slice (some ⟨g33, 0, none⟩) 1 1) 1 (obC [o]) :: .obj g24 (.cells #[.int .i64 (((o.p : Nat) : Int)), .slice (some ⟨o.g, 0, none⟩) o.ws.length o.c] 79) :: .obj h (.cells #[.map (some m), .int .i64 (((last : Nat) : Int)), .int .i64 (((ss : Nat) : Int)), .slice sg gs.length sc, .int .i64 (((ls : Nat) : Int)), .slice lg gl.length lc] 73) :: T) := hM.bring 7 rfl rfl
     replace hM : Mg w0 w36 (.obj h (.cells #[.map (some m), .int .i64 (((last : Nat) : Int)), .int .i64 (((ss : Nat) : Int)), .slice sg gs.length sc, .int .i64 (((ls : Nat) : Int)), .slice lg gl.length lc] 73) :: .obj m (mapO (os.map Ob.en) last) :: .row 96 2 (.slice sg gs.length sc) gs.length (gapC gs) :: .row 96 2 (.slice lg gl.length lc) gl.length (gapC gl) :: .row 79 2 (.slice so37 (nk + 1) ca38) (nk + 1) (obC (ys ++ [o])) :: .obj r5 (.mapIter (some m) last ((seen ++ [o.x - 1])).toArray last) :: .row 79 2 (.slice (some ⟨g33, 0, none⟩) 1 1) 1 (obC [o]) :: .obj g24 (.cells #[.int .i64 (((o.p : Nat) : Int)), .slice (some ⟨o.g, 0, none⟩) o.ws.length o.c] 79) :: T) := hM.bring 7 rfl rfl
     replace hM : Mg w0 w36 (.obj h (.cells #[.map (some m), .int .i64 (((last : Nat) : Int)), .int .i64 (((ss : Nat) : Int)), .slice sg gs.length sc, .int .i64 (((ls : Nat) : Int)), .slice lg gl.length lc] 73) :: .obj m (mapO (os.map Ob.en) last) :: .row 96 2 (.slice sg gs.length sc) gs.length (gapC gs) :: .row 96 2 (.slice lg gl.length lc) gl.length (gapC gl) :: .row 79 2 (.slice so37 (nk + 1) ca38) (nk + 1) (obC (ys ++ [o])) :: .obj r5 (.mapIter (some m) last ((seen ++ [o.x - 1])).toArray last) :: T) := by
       have h9 := hM.sub (.cons_cons _ (.cons_cons _ (.cons_cons _ (.cons_cons _ (.cons_cons _ (.cons_cons _ (.cons _ (.cons _ (.refl _)))))))))
       exact h9
     refine hK8 _ _ _ (by have := unseen_less hx.lo ho; omega) ⟨seen ++ [o.x - 1], ys ++ [o], so37, ca38, nk + 1, rfl, ⟨stand_step hx.lo hx.rise ho (by show (decide (16 < ((o.ws.length : Nat) : Int)) == false) = true; rw [hb28]; rfl) hk, by rw [hnk]; simp⟩, hA.keep _ ⟨rfl, rfl, rfl, rfl, rfl, rfl, rfl, rfl, rfl, trivial⟩, hM⟩
theorem standing_true {w0 w : World} {h m last ss ls sc lc : Nat} {sg lg : Option Addr} {gs gl : List (Nat × Nat)} {os : List Ob} {T : List Ck} (hx : Hx os last) (hol : os.length ≤ 1000000) (hcl : ∀ o ∈ os, o.ws.length ≤ 1000000) (hpp : ∀ o ∈ os, o.p ≤ 65536) (hnT : noBld T) (hM0 : Mg w0 w (.obj h (.cells #[.map (some m), .int .i64 (((last : Nat) : Int)), .int .i64 (((ss : Nat) : Int)), .slice sg gs.length sc, .int .i64 (((ls : Nat) : Int)), .slice lg gl.length lc] 73) :: .obj m (mapO (os.map Ob.en) last) :: .row 96 2 (.slice sg gs.length sc) gs.length (gapC gs) :: .row 96 2 (.slice lg gl.length lc) gl.length (gapC gl) :: T)) : Calls Try.prog 39 #[.pointer (some ⟨h, 0, none⟩), .bool true] w fun e w' => ∃ so' ca' zs, e = .returned (.slice so' (zs : List Ob).length ca') ∧ (zs.Perm (os.filter (stP true)) ∧ ByP zs) ∧ Mg w0 w' (.obj h (.cells #[.map (some m), .int .i64 (((last : Nat) : Int)), .int .i64 (((ss : Nat) : Int)), .slice sg gs.length sc, .int .i64 (((ls : Nat) : Int)), .slice lg gl.length lc] 73) :: .obj m (mapO (os.map Ob.en) last) :: .row 96 2 (.slice sg gs.length sc) gs.length (gapC gs) :: .row 96 2 (.slice lg gl.length lc) gl.length (gapC gl) :: .row 79 2 (.slice so' zs.length ca') zs.length (obC zs) :: T) := by
 have hM : Mg w0 w (.obj h (.cells #[.map (some m), .int .i64 (((last : Nat) : Int)), .int .i64 (((ss : Nat) : Int)), .slice sg gs.length sc, .int .i64 (((ls : Nat) : Int)), .slice lg gl.length lc] 73) :: .obj m (mapO (os.map Ob.en) last) :: .row 96 2 (.slice sg gs.length sc) gs.length (gapC gs) :: .row 96 2 (.slice lg gl.length lc) gl.length (gapC gl) :: T) := hM0
 refine walk_of (l := [(0, .pointer (some ⟨h, 0, none⟩)), (1, .bool true)]) Try.func39 rfl Try.ntmps39 rfl rfl ?_
 intro Q hret hnorm hP a hA
 refine wp_seq_k (fun K1 hK1 => ?_)
 refine wp_region_lit ?_
 refine seq_do hA rfl rfl rfl (does_assign rfl) ?_
 intro a hA
 refine seq_end ?_
 refine hK1 _ _ ?_
 refine wp_seq_k (fun K2 hK2 => ?_)
 refine wp_region_lit ?_
 refine seq_do hA rfl rfl rfl (does_assign rfl) ?_
 intro a hA
 refine seq_end ?_
 refine hK2 _ _ ?_
 refine wp_seq_k (fun K3 hK3 => ?_)
 refine wp_seq_k (fun K4 hK4 => ?_)
 refine wp_region_lit ?_
 refine seq_do hA rfl rfl rfl (does_move rfl) ?_
 intro a hA
 refine seq_do hA rfl rfl rfl (does_nilq rfl) ?_
 intro a hA
 refine seq_do (v := .pointer (some ⟨h, 0, none⟩)) hA rfl rfl rfl (does_field HbH_fld_73_0 rfl rfl) ?_
 intro a hA
 refine seq_do hA rfl rfl rfl (m_load1 hM HbH_is1_67 rfl 0 rfl rfl) ?_
 intro a hA
 refine s_rangeM hA hM rfl Try.underlying67 rfl 1 rfl rfl rfl rfl ?_
 intro r5 w6 hM a hA
 replace hM : Mg w0 w6 (.obj r5 (.mapIter (some m) last ([]).toArray last) :: .obj h (.cells #[.map (some m), .int .i64 (((last : Nat) : Int)), .int .i64 (((ss : Nat) : Int)), .slice sg gs.length sc, .int .i64 (((ls : Nat) : Int)), .slice lg gl.length lc] 73) :: .obj m (mapO (os.map Ob.en) last) :: .row 96 2 (.slice sg gs.length sc) gs.length (gapC gs) :: .row 96 2 (.slice lg gl.length lc) gl.length (gapC gl) :: T) := hM
 refine seq_end ?_
 refine hK4 _ _ ?_
 refine wp_block ?_
 replace hM := hM.nilRowH (noBld_cons (by simp) (noBld_cons (by simp) (noBld_cons (by simp) (noBld_cons (by simp) (noBld_cons (by simp) hnT))))) 79 2
 replace hM : Mg w0 w6 (.obj r5 (.mapIter (some m) last ([]).toArray last) :: .row 79 2 (.slice none 0 0) 0 (obC []) :: .obj h (.cells #[.map (some m), .int .i64 (((last : Nat) : Int)), .int .i64 (((ss : Nat) : Int)), .slice sg gs.length sc, .int .i64 (((ls : Nat) : Int)), .slice lg gl.length lc] 73) :: .obj m (mapO (os.map Ob.en) last) :: .row 96 2 (.slice sg gs.length sc) gs.length (gapC gs) :: .row 96 2 (.slice lg gl.length lc) gl.length (gapC gl) :: T) := hM.bring 1 rfl rfl
 replace hM : Mg w0 w6 (.row 79 2 (.slice none 0 0) 0 (obC []) :: .obj r5 (.mapIter (some m) last ([]).toArray last) :: .obj h (.cells #[.map (some m), .int .i64 (((last : Nat) : Int)), .int .i64 (((ss : Nat) : Int)), .slice sg gs.length sc, .int .i64 (((ls : Nat) : Int)), .slice lg gl.length lc] 73) :: .obj m (mapO (os.map Ob.en) last) :: .row 96 2 (.slice sg gs.length sc) gs.length (gapC gs) :: .row 96 2 (.slice lg gl.length lc) gl.length (gapC gl) :: T) := hM.bring 1 rfl rfl
 replace hM : Mg w0 w6 (.row 96 2 (.slice lg gl.length lc) gl.length (gapC gl) :: .row 79 2 (.slice none 0 0) 0 (obC []) :: .obj r5 (.mapIter (some m) last ([]).toArray last) :: .obj h (.cells #[.map (some m), .int .i64 (((last : Nat) : Int)), .int .i64 (((ss : Nat) : Int)), .slice sg gs.length sc, .int .i64 (((ls : Nat) : Int)), .slice lg gl.length lc] 73) :: .obj m (mapO (os.map Ob.en) last) :: .row 96 2 (.slice sg gs.length sc) gs.length (gapC gs) :: T) := hM.bring 5 rfl rfl
 replace hM : Mg w0 w6 (.row 96 2 (.slice sg gs.length sc) gs.length (gapC gs) :: .row 96 2 (.slice lg gl.length lc) gl.length (gapC gl) :: .row 79 2 (.slice none 0 0) 0 (obC []) :: .obj r5 (.mapIter (some m) last ([]).toArray last) :: .obj h (.cells #[.map (some m), .int .i64 (((last : Nat) : Int)), .int .i64 (((ss : Nat) : Int)), .slice sg gs.length sc, .int .i64 (((ls : Nat) : Int)), .slice lg gl.length lc] 73) :: .obj m (mapO (os.map Ob.en) last) :: T) := hM.bring 5 rfl rfl
 replace hM : Mg w0 w6 (.obj m (mapO (os.map Ob.en) last) :: .row 96 2 (.slice sg gs.length sc) gs.length (gapC gs) :: .row 96 2 (.slice lg gl.length lc) gl.length (gapC gl) :: .row 79 2 (.slice none 0 0) 0 (obC []) :: .obj r5 (.mapIter (some m) last ([]).toArray last) :: .obj h (.cells #[.map (some m), .int .i64 (((last : Nat) : Int)), .int .i64 (((ss : Nat) : Int)), .slice sg gs.length sc, .int .i64 (((ls : Nat) : Int)), .slice lg gl.length lc] 73) :: T) := hM.bring 5 rfl rfl
 replace hM : Mg w0 w6 (.obj h (.cells #[.map (some m), .int .i64 (((last : Nat) : Int)), .int .i64 (((ss : Nat) : Int)), .slice sg gs.length sc, .int .i64 (((ls : Nat) : Int)), .slice lg gl.length lc] 73) :: .obj m (mapO (os.map Ob.en) last) :: .row 96 2 (.slice sg gs.length sc) gs.length (gapC gs) :: .row 96 2 (.slice lg gl.length lc) gl.length (gapC gl) :: .row 79 2 (.slice none 0 0) 0 (obC []) :: .obj r5 (.mapIter (some m) last ([]).toArray last) :: T) := hM.bring 5 rfl rfl
 refine wp_loop_n (fun m_ a w1 => ∃ (seen : List Nat) (ys : List Ob) (so_ : Option Addr) (ca_ : Nat) (nk : Nat), m_ = 1 + (unseen seen os).length ∧ (ys.Perm (came (stP true) seen os) ∧ nk = ys.length) ∧ Sl a 30 [(0, .pointer (some ⟨h, 0, none⟩)), (1, .bool true), (4, .slice none 0 0), (5, .slice so_ nk ca_), (8, .pointer (some ⟨h, 0, none⟩)), (9, .pointer (some ⟨h, 0, none⟩)), (10, .pointer (some ⟨h, 0, none⟩)), (11, .map (some m)), (12, .pointer (some ⟨r5, 0, none⟩))] ∧ Mg w0 w1 (.obj h (.cells #[.map (some m), .int .i64 (((last : Nat) : Int)), .int .i64 (((ss : Nat) : Int)), .slice sg gs.length sc, .int .i64 (((ls : Nat) : Int)), .slice lg gl.length lc] 73) :: .obj m (mapO (os.map Ob.en) last) :: .row 96 2 (.slice sg gs.length sc) gs.length (gapC gs) :: .row 96 2 (.slice lg gl.length lc) gl.length (gapC gl) :: .row 79 2 (.slice so_ nk ca_) nk (obC ys) :: .obj r5 (.mapIter (some m) last seen.toArray last) :: T)) _ ⟨[], [], none, 0, 0, rfl, ⟨(by rw [came_nil]), rfl⟩, hA.keep _ ⟨rfl, rfl, rfl, rfl, rfl, rfl, rfl, rfl, rfl, trivial⟩, hM⟩ ?_
 clear hM hA
 rintro m_ a w7 ⟨seen, ys, so_, ca_, nk, rfl, hinv9, hA, hM⟩ K8 hK8
 obtain ⟨hk, hnk⟩ := hinv9
 have hkl := stand_len hk
 refine wp_seq_k (fun K10 hK10 => ?_)
 refine wp_region_lit ?_
 refine s_nextM (seen := seen) (L' := fun e11 => (.obj h (.cells #[.map (some m), .int .i64 (((last : Nat) : Int)), .int .i64 (((ss : Nat) : Int)), .slice sg gs.length sc, .int .i64 (((ls : Nat) : Int)), .slice lg gl.length lc] 73) :: .obj m (mapO (os.map Ob.en) last) :: .row 96 2 (.slice sg gs.length sc) gs.length (gapC gs) :: .row 96 2 (.slice lg gl.length lc) gl.length (gapC gl) :: .row 79 2 (.slice so_ nk ca_) nk (obC ys) :: .obj r5 (.mapIter (some m) last ((seen ++ [e11.b])).toArray last) :: T)) hA hM rfl rfl 5 1 rfl rfl hx.old (Nat.le_refl _) rfl rfl rfl (fun _ => rfl) ?_ ?_
 · intro hz16 a hA
   rw [leftE_os] at hz16
   replace hz16 := List.map_eq_nil_iff.1 hz16
   refine seq_do (v := .bool false) hA rfl rfl rfl (does_extract (vs := [.bool false]) rfl rfl) ?_
   intro a hA
   refine seq_end ?_
   refine hK10 _ _ ?_
   refine wp_seq_k (fun K17 hK17 => ?_)
   refine wp_cond_false (hA.ev rfl) ?_
   refine wp_exit ?_
   refine hK3 _ _ ?_
   refine wp_seq_k (fun K18 hK18 => ?_)
   refine wp_region_lit ?_
   refine seq_do hA rfl rfl rfl (does_move rfl) ?_
   intro a hA
   replace hM : Mg w0 w7 (.row 79 2 (.slice so_ nk ca_) nk (obC ys) :: .obj h (.cells #[.map (some m), .int .i64 (((last : Nat) : Int)), .int .i64 (((ss : Nat) : Int)), .slice sg gs.length sc, .int .i64 (((ls : Nat) : Int)), .slice lg gl.length lc] 73) :: .obj m (mapO (os.map Ob.en) last) :: .row 96 2 (.slice sg gs.length sc) gs.length (gapC gs) :: .row 96 2 (.slice lg gl.length lc) gl.length (gapC gl) :: .obj r5 (.mapIter (some m) last seen.toArray last) :: T) := hM.bring 4 rfl rfl
   have hpm := hk
   rw [came_end hz16] at hpm
   refine seq_call hA rfl rfl rfl (enters_func rfl rfl (fun w => by kernel_rfl)) (sortO_any hnk (fun o ho => hpp o (List.mem_filter.1 (hpm.mem_iff.1 ho)).1) (by omega) hM) ?_
   rintro _ w20 ⟨rfl, zs, ⟨hzp, hzb⟩, hM19⟩
   replace hM : Mg w0 w20 (.row 79 2 (.slice so_ nk ca_) nk (obC zs) :: .obj h (.cells #[.map (some m), .int .i64 (((last : Nat) : Int)), .int .i64 (((ss : Nat) : Int)), .slice sg gs.length sc, .int .i64 (((ls : Nat) : Int)), .slice lg gl.length lc] 73) :: .obj m (mapO (os.map Ob.en) last) :: .row 96 2 (.slice sg gs.length sc) gs.length (gapC gs) :: .row 96 2 (.slice lg gl.length lc) gl.length (gapC gl) :: .obj r5 (.mapIter (some m) last seen.toArray last) :: T) := hM19
   refine ⟨_, rfl, ?_⟩
   intro a hA
   refine seq_end ?_
   refine hK18 _ _ ?_
   refine wp_seq_k (fun K21 hK21 => ?_)
   refine wp_region_lit ?_
   refine seq_do hA rfl rfl rfl (does_move rfl) ?_
   intro a hA
   refine seq_do hA rfl rfl rfl (does_assign rfl) ?_
   intro a hA
   refine seq_end ?_
   refine hK21 _ _ ?_
   refine wp_ret ?_
   refine hret _ _ ?_
   refine ends (v := .slice so_ nk ca_) hA rfl (.cons (res_tmp rfl) .nil) rfl ?_
   replace hM : Mg w0 w20 (.row 96 2 (.slice lg gl.length lc) gl.length (gapC gl) :: .row 79 2 (.slice so_ nk ca_) nk (obC zs) :: .obj h (.cells #[.map (some m), .int .i64 (((last : Nat) : Int)), .int .i64 (((ss : Nat) : Int)), .slice sg gs.length sc, .int .i64 (((ls : Nat) : Int)), .slice lg gl.length lc] 73) :: .obj m (mapO (os.map Ob.en) last) :: .row 96 2 (.slice sg gs.length sc) gs.length (gapC gs) :: .obj r5 (.mapIter (some m) last seen.toArray last) :: T) := hM.bring 4 rfl rfl
   replace hM : Mg w0 w20 (.row 96 2 (.slice sg gs.length sc) gs.length (gapC gs) :: .row 96 2 (.slice lg gl.length lc) gl.length (gapC gl) :: .row 79 2 (.slice so_ nk ca_) nk (obC zs) :: .obj h (.cells #[.map (some m), .int .i64 (((last : Nat) : Int)), .int .i64 (((ss : Nat) : Int)), .slice sg gs.length sc, .int .i64 (((ls : Nat) : Int)), .slice lg gl.length lc] 73) :: .obj m (mapO (os.map Ob.en) last) :: .obj r5 (.mapIter (some m) last seen.toArray last) :: T) := hM.bring 4 rfl rfl
   replace hM : Mg w0 w20 (.obj m (mapO (os.map Ob.en) last) :: .row 96 2 (.slice sg gs.length sc) gs.length (gapC gs) :: .row 96 2 (.slice lg gl.length lc) gl.length (gapC gl) :: .row 79 2 (.slice so_ nk ca_) nk (obC zs) :: .obj h (.cells #[.map (some m), .int .i64 (((last : Nat) : Int)), .int .i64 (((ss : Nat) : Int)), .slice sg gs.length sc, .int .i64 (((ls : Nat) : Int)), .slice lg gl.length lc] 73) :: .obj r5 (.mapIter (some m) last seen.toArray last) :: T) := hM.bring 4 rfl rfl
   replace hM : Mg w0 w20 (.obj h (.cells #[.map (some m), .int .i64 (((last : Nat) : Int)), .int .i64 (((ss : Nat) : Int)), .slice sg gs.length sc, .int .i64 (((ls : Nat) : Int)), .slice lg gl.length lc] 73) :: .obj m (mapO (os.map Ob.en) last) :: .row 96 2 (.slice sg gs.length sc) gs.length (gapC gs) :: .row 96 2 (.slice lg gl.length lc) gl.length (gapC gl) :: .row 79 2 (.slice so_ nk ca_) nk (obC zs) :: .obj r5 (.mapIter (some m) last seen.toArray last) :: T) := hM.bring 4 rfl rfl
   replace hM : Mg w0 w20 (.obj h (.cells #[.map (some m), .int .i64 (((last : Nat) : Int)), .int .i64 (((ss : Nat) : Int)), .slice sg gs.length sc, .int .i64 (((ls : Nat) : Int)), .slice lg gl.length lc] 73) :: .obj m (mapO (os.map Ob.en) last) :: .row 96 2 (.slice sg gs.length sc) gs.length (gapC gs) :: .row 96 2 (.slice lg gl.length lc) gl.length (gapC gl) :: .row 79 2 (.slice so_ nk ca_) nk (obC zs) :: T) := by
     have h9 := hM.sub (.cons_cons _ (.cons_cons _ (.cons_cons _ (.cons_cons _ (.cons_cons _ (.cons _ (.refl _)))))))
     exact h9
   have e9 : nk = zs.length := by rw [hnk, hzp.length_eq]
   rw [e9] at hM
   exact ⟨_, _, zs, by rw [e9], ⟨hzp.trans hpm, hzb⟩, hM⟩
 · intro e11 he12 w13 hM a hA
   rw [leftE_os] at he12
   obtain ⟨o, ho, rfl⟩ := List.mem_map.1 he12
   replace hM : Mg w0 w13 (.obj h (.cells #[.map (some m), .int .i64 (((last : Nat) : Int)), .int .i64 (((ss : Nat) : Int)), .slice sg gs.length sc, .int .i64 (((ls : Nat) : Int)), .slice lg gl.length lc] 73) :: .obj m (mapO (os.map Ob.en) last) :: .row 96 2 (.slice sg gs.length sc) gs.length (gapC gs) :: .row 96 2 (.slice lg gl.length lc) gl.length (gapC gl) :: .row 79 2 (.slice so_ nk ca_) nk (obC ys) :: .obj r5 (.mapIter (some m) last ((seen ++ [o.x - 1])).toArray last) :: T) := hM
   have homem : o ∈ os := (List.mem_filter.1 ho).1
   have hol1 := hcl o homem
   refine seq_do (v := .bool true) hA rfl rfl rfl (does_extract (vs := [.bool true, .int .i64 (((o.x : Nat) : Int)), .agg #[.int .i64 (((o.p : Nat) : Int)), .slice (some ⟨o.g, 0, none⟩) o.ws.length o.c]]) rfl rfl) ?_
   intro a hA
   refine seq_end ?_
   refine hK10 _ _ ?_
   refine wp_seq_k (fun K22 hK22 => ?_)
   refine wp_cond_true (hA.ev rfl) ?_
   refine wp_skip ?_
   refine hK22 _ _ ?_
   refine wp_block ?_
   refine wp_seq_k (fun K23 hK23 => ?_)
   refine wp_region_lit ?_
   refine seq_do (v := .tuple #[.int .i64 (((o.x : Nat) : Int)), .agg #[.int .i64 (((o.p : Nat) : Int)), .slice (some ⟨o.g, 0, none⟩) o.ws.length o.c]]) hA rfl rfl rfl (m_entry (e := o.en) (seen := seen) hM rfl 5 1 rfl rfl (List.mem_map.2 ⟨o, homem, rfl⟩) hx.nodup) ?_
   intro a hA
   refine seq_do (v := .agg #[.int .i64 (((o.p : Nat) : Int)), .slice (some ⟨o.g, 0, none⟩) o.ws.length o.c]) hA rfl rfl rfl (does_extract (vs := [.int .i64 (((o.x : Nat) : Int)), .agg #[.int .i64 (((o.p : Nat) : Int)), .slice (some ⟨o.g, 0, none⟩) o.ws.length o.c]]) rfl rfl) ?_
   intro a hA
   refine s_new (vs := [.int .i64 0, .slice none 0 0]) (t := 79) hA hM rfl rfl rfl (fun g => .pointer (some ⟨g, 0, none⟩)) (does_alloc (z := .agg #[.int .i64 0, .slice none 0 0]) (by kernel_rfl) rfl) (by decide) ?_
   intro g24 w25 hM a hA
   refine s_store (us := [.int .i64 (((o.p : Nat) : Int)), .slice (some ⟨o.g, 0, none⟩) o.ws.length o.c]) (L' := (.obj g24 (.cells #[.int .i64 (((o.p : Nat) : Int)), .slice (some ⟨o.g, 0, none⟩) o.ws.length o.c] 79) :: .obj h (.cells #[.map (some m), .int .i64 (((last : Nat) : Int)), .int .i64 (((ss : Nat) : Int)), .slice sg gs.length sc, .int .i64 (((ls : Nat) : Int)), .slice lg gl.length lc] 73) :: .obj m (mapO (os.map Ob.en) last) :: .row 96 2 (.slice sg gs.length sc) gs.length (gapC gs) :: .row 96 2 (.slice lg gl.length lc) gl.length (gapC gl) :: .row 79 2 (.slice so_ nk ca_) nk (obC ys) :: .obj r5 (.mapIter (some m) last ((seen ++ [o.x - 1])).toArray last) :: T)) hA hM rfl rfl (m_store rfl rfl rfl (by kernel_rfl) hM 0 rfl rfl rfl) 0 rfl rfl rfl ?_
   intro w26 hM
   refine seq_end ?_
   refine hK23 _ _ ?_
   refine wp_seq_k (fun K27 hK27 => ?_)
   refine wp_region_lit ?_
   refine seq_do (v := .pointer (some ⟨g24, 1, none⟩)) hA rfl rfl rfl (does_field HbH_fld_79_1 rfl rfl) ?_
   intro a hA
   refine seq_do hA rfl rfl rfl (m_load1 hM HbH_is1_59 rfl 0 rfl rfl) ?_
   intro a hA
   refine seq_do (v := .int .i64 (((o.ws.length : Nat) : Int))) hA rfl rfl rfl (does_len Try.underlying59 rfl) ?_
   intro a hA
   rcases Bool.eq_false_or_eq_true (decide (16 < ((o.ws.length : Nat) : Int))) with hb28 | hb28
   · have hb28' := of_decide_eq_true hb28
     refine seq_call hA rfl rfl rfl (enters_func rfl rfl (fun w => by kernel_rfl)) ((hb28 ▸ large_any)) ?_
     rintro _ w30 ⟨rfl, hb29⟩
     replace hM := hM.call hb29
     refine ⟨_, rfl, ?_⟩
     intro a hA
     refine seq_do hA rfl rfl rfl (does_move rfl) ?_
     intro a hA
     refine seq_do (v := .bool true) hA rfl rfl rfl (does_bin rfl rfl (bin_eqlB Try.underlying4)) ?_
     intro a hA
     refine seq_end ?_
     refine hK27 _ _ ?_
     refine wp_cond_true (hA.ev rfl) ?_
     refine wp_region_lit ?_
     refine seq_do hA rfl rfl rfl (does_move rfl) ?_
     intro a hA
     refine seq_do hA rfl rfl rfl (m_loadS hM HbH_isS_79 rfl 0 rfl (cs := [.int .i64 (((o.p : Nat) : Int)), .slice (some ⟨o.g, 0, none⟩) o.ws.length o.c]) rfl rfl) ?_
     intro a hA
     refine s_litE (e := 79) (sz := 2) (m := 1) (vs := obC [o]) hA hM rfl rfl rfl (does_buildSlice rfl (by kernel_rfl)) rfl rfl (.inl (by decide)) ?_
     intro g31 w32 hM a hA
     refine s_appendE (e := 79) (sz := 2) (k := 6) (q := nk) (m := 1) (xs := obC ys) (news := obC [o]) (L' := fun v33 => (.row 79 2 (.slice (some ⟨g31, 0, none⟩) 1 1) 1 (obC [o]) :: .obj g24 (.cells #[.int .i64 (((o.p : Nat) : Int)), .slice (some ⟨o.g, 0, none⟩) o.ws.length o.c] 79) :: .obj h (.cells #[.map (some m), .int .i64 (((last : Nat) : Int)), .int .i64 (((ss : Nat) : Int)), .slice sg gs.length sc, .int .i64 (((ls : Nat) : Int)), .slice lg gl.length lc] 73) :: .obj m (mapO (os.map Ob.en) last) :: .row 96 2 (.slice sg gs.length sc) gs.length (gapC gs) :: .row 96 2 (.slice lg gl.length lc) gl.length (gapC gl) :: .row 79 2 (v33) (nk + 1) (obC ys ++ obC [o]) :: .obj r5 (.mapIter (some m) last ((seen ++ [o.x - 1])).toArray last) :: T)) hA rfl rfl rfl (m_appendE (z := .agg #[.int .i64 0, .slice none 0 0]) (sz := 2) (by_ := 32) Try.underlying90 (by kernel_rfl) rfl rfl rfl hM 6 rfl rfl 0 rfl rfl rfl rfl (by omega)) (fun _ => rfl) ?_
     intro v33 w34 hM a hA
     replace hM : Mg w0 w34 (.row 79 2 (.slice (some ⟨g31, 0, none⟩) 1 1) 1 (obC [o]) :: .obj g24 (.cells #[.int .i64 (((o.p : Nat) : Int)), .slice (some ⟨o.g, 0, none⟩) o.ws.length o.c] 79) :: .obj h (.cells #[.map (some m), .int .i64 (((last : Nat) : Int)), .int .i64 (((ss : Nat) : Int)), .slice sg gs.length sc, .int .i64 (((ls : Nat) : Int)), .slice lg gl.length lc] 73) :: .obj m (mapO (os.map Ob.en) last) :: .row 96 2 (.slice sg gs.length sc) gs.length (gapC gs) :: .row 96 2 (.slice lg gl.length lc) gl.length (gapC gl) :: .row 79 2 (v33) (nk + 1) (obC (ys ++ [o])) :: .obj r5 (.mapIter (some m) last ((seen ++ [o.x - 1])).toArray last) :: T) := by rw [obC_append]; exact hM
     obtain ⟨so35, ca36, rfl⟩ := owns_anyH (hM.has 6 rfl)
     refine seq_do hA rfl rfl rfl (does_assign rfl) ?_
     intro a hA
     refine seq_end ?_
     replace hM : Mg w0 w34 (.obj r5 (.mapIter (some m) last ((seen ++ [o.x - 1])).toArray last) :: .row 79 2 (.slice (some ⟨g31, 0, none⟩) 1 1) 1 (obC [o]) :: .obj g24 (.cells #[.int .i64 (((o.p : Nat) : Int)), .slice (some ⟨o.g, 0, none⟩) o.ws.length o.c] 79) :: .obj h (.cells #[.map (some m), .int .i64 (((last : Nat) : Int)), .int .i64 (((ss : Nat) : Int)), .slice sg gs.length sc, .int .i64 (((ls : Nat) : Int)), .slice lg gl.length lc] 73) :: .obj m (mapO (os.map Ob.en) last) :: .row 96 2 (.slice sg gs.length sc) gs.length (gapC gs) :: .row 96 2 (.slice lg gl.length lc) gl.length (gapC gl) :: .row 79 2 (.slice so35 (nk + 1) ca36) (nk + 1) (obC (ys ++ [o])) :: T) := hM.bring 7 rfl rfl
     replace hM : Mg w0 w34 (.row 79 2 (.slice so35 (nk + 1) ca36) (nk + 1) (obC (ys ++ [o])) :: .obj r5 (.mapIter (some m) last ((seen ++ [o.x - 1])).toArray last) :: .row 79 2 (.slice (some ⟨g31, 0, none⟩) 1 1) 1 (obC [o]) :: .obj g24 (.cells #[.int .i64 (((o.p : Nat) : Int)), .slice (some ⟨o.g, 0, none⟩) o.ws.length o.c] 79) :: .obj h (.cells #[.map (some m), .int .i64 (((last : Nat) : Int)), .int .i64 (((ss : Nat) : Int)), .slice sg gs.length sc, .int .i64 (((ls : Nat) : Int)), .slice lg gl.length lc] 73) :: .obj m (mapO (os.map Ob.en) last) :: .row 96 2 (.slice sg gs.length sc) gs.length (gapC gs) :: .row 96 2 (.slice lg gl.length lc) gl.length (gapC gl) :: T) := hM.bring 7 rfl rfl
     replace hM : Mg w0 w34 (.row 96 2 (.slice lg gl.length lc) gl.length (gapC gl) :: .row 79 2 (.slice so35 (nk + 1) ca36) (nk + 1) (obC (ys ++ [o])) :: .obj r5 (.mapIter (some m) last ((seen ++ [o.x - 1])).toArray last) :: .row 79 2 (.slice (some ⟨g31, 0, none⟩) 1 1) 1 (obC [o]) :: .obj g24 (.cells #[.int .i64 (((o.p : Nat) : Int)), .slice (some ⟨o.g, 0, none⟩) o.ws.length o.c] 79) :: .obj h (.cells #[.map (some m), .int .i64 (((last : Nat) : Int)), .int .i64 (((ss : Nat) : Int)), .slice sg gs.length sc, .int .i64 (((ls : Nat) : Int)), .slice lg gl.length lc] 73) :: .obj m (mapO (os.map Ob.en) last) :: .row 96 2 (.slice sg gs.length sc) gs.length (gapC gs) :: T) := hM.bring 7 rfl rfl
     replace hM : Mg w0 w34 (.row 96 2 (.slice sg gs.length sc) gs.length (gapC gs) :: .row 96 2 (.slice lg gl.length lc) gl.length (gapC gl) :: .row 79 2 (.slice so35 (nk + 1) ca36) (nk + 1) (obC (ys ++ [o])) :: .obj r5 (.mapIter (some m) last ((seen ++ [o.x - 1])).toArray last) :: .row 79 2 (.slice (some ⟨g31, 0, none⟩) 1 1) 1 (obC [o]) :: .obj g24 (.cells #[.int .i64 (((o.p : Nat) : Int)), .slice (some ⟨o.g, 0, none⟩) o.ws.length o.c] 79) :: .obj h (.cells #[.map (some m), .int .i64 (((last : Nat) : Int)), .int .i64 (((ss : Nat) : Int)), .slice sg gs.length sc, .int .i64 (((ls : Nat) : Int)), .slice lg gl.length lc] 73) :: .obj m (mapO (os.map Ob.en) last) :: T) := hM.bring 7 rfl rfl
     replace hM : Mg w0 w34 (.obj m (mapO (os.map Ob.en) last) :: .row 96 2 (.slice sg gs.length sc) gs.length (gapC gs) :: .row 96 2 (.slice lg gl.length lc) gl.length (gapC gl) :: .row 79 2 (.slice so35 (nk + 1) ca36) (nk + 1) (obC (ys ++ [o])) :: .obj r5 (.mapIter (some m) last ((seen ++ [o.x - 1])).toArray last) :: .row 79 2 (.slice (some ⟨g31, 0, none⟩) 1 1) 1 (obC [o]) :: .obj g24 (.cells #[.int .i64 (((o.p : Nat) : Int)), .slice (some ⟨o.g, 0, none⟩) o.ws.length o.c] 79) :: .obj h (.cells #[.map (some m), .int .i64 (((last : Nat) : Int)), .int .i64 (((ss : Nat) : Int)), .slice sg gs.length sc, .int .i64 (((ls : Nat) : Int)), .slice lg gl.length lc] 73) :: T) := hM.bring 7 rfl rfl
     replace hM : Mg w0 w34 (.obj h (.cells #[.map (some m), .int .i64 (((last : Nat) : Int)), .int .i64 (((ss : Nat) : Int)), .slice sg gs.length sc, .int .i64 (((ls : Nat) : Int)), .slice lg gl.length lc] 73) :: .obj m (mapO (os.map Ob.en) last) :: .row 96 2 (.slice sg gs.length sc) gs.length (gapC gs) :: .row 96 2 (.slice lg gl.length lc) gl.length (gapC gl) :: .row 79 2 (.slice so35 (nk + 1) ca36) (nk + 1) (obC (ys ++ [o])) :: .obj r5 (.mapIter (some m) last ((seen ++ [o.x - 1])).toArray last) :: .row 79 2 (.slice (some ⟨g31, 0, none⟩) 1 1) 1 (obC [o]) :: .obj g24 (.cells #[.int .i64 (((o.p : Nat) : Int)), .slice (some ⟨o.g, 0, none⟩) o.ws.length o.c] 79) :: T) := hM.bring 7 rfl rfl
     replace hM : Mg w0 w34 (.obj h (.cells #[.map (some m), .int .i64 (((last : Nat) : Int)), .int .i64 (((ss : Nat) : Int)), .slice sg gs.length sc, .int .i64 (((ls : Nat) : Int)), .slice lg gl.length lc] 73) :: .obj m (mapO (os.map Ob.en) last) :: .row 96 2 (.slice sg gs.length sc) gs.length (gapC gs) :: .row 96 2 (.slice lg gl.length lc) gl.length (gapC gl) :: .row 79 2 (.slice so35 (nk + 1) ca36) (nk + 1) (obC (ys ++ [o])) :: .obj r5 (.mapIter (some m) last ((seen ++ [o.x - 1])).toArray last) :: T) := by
       have h9 := hM.sub (.cons_cons _ (.cons_cons _ (.cons_cons _ (.cons_cons _ (.cons_cons _ (.cons_cons _ (.cons _ (.cons _ (.refl _)))))))))
       exact h9
     refine hK8 _ _ _ (by have := unseen_less hx.lo ho; omega) ⟨seen ++ [o.x - 1], ys ++ [o], so35, ca36, nk + 1, rfl, ⟨stand_step hx.lo hx.rise ho (by show (decide (16 < ((o.ws.length : Nat) : Int)) == true) = true; rw [hb28]; rfl) hk, by rw [hnk]; simp⟩, hA.keep _ ⟨rfl, rfl, rfl, rfl, rfl, rfl, rfl, rfl, rfl, trivial⟩, hM⟩
   · have hb28' := of_decide_eq_false hb28
     refine seq_call hA rfl rfl rfl (enters_func rfl rfl (fun w => by kernel_rfl)) ((hb28 ▸ large_any)) ?_
     rintro _ w38 ⟨rfl, hb37⟩
     replace hM := hM.call hb37
     refine ⟨_, rfl, ?_⟩
     intro a hA
     refine seq_do hA rfl rfl rfl (does_move rfl) ?_
     intro a hA
     refine seq_do (v := .bool false) hA rfl rfl rfl (does_bin rfl rfl (bin_eqlB Try.underlying4)) ?_
     intro a hA
     refine seq_end ?_
     refine hK27 _ _ ?_
     refine wp_cond_false (hA.ev rfl) ?_
     refine wp_skip ?_
     replace hM : Mg w0 w38 (.obj r5 (.mapIter (some m) last ((seen ++ [o.x - 1])).toArray last) :: .obj g24 (.cells #[.int .i64 (((o.p : Nat) : Int)), .slice (some ⟨o.g, 0, none⟩) o.ws.length o.c] 79) :: .obj h (.cells #[.map (some m), .int .i64 (((last : Nat) : Int)), .int .i64 (((ss : Nat) : Int)), .slice sg gs.length sc, .int .i64 (((ls : Nat) : Int)), .slice lg gl.length lc] 73) :: .obj m (mapO (os.map Ob.en) last) :: .row 96 2 (.slice sg gs.length sc) gs.length (gapC gs) :: .row 96 2 (.slice lg gl.length lc) gl.length (gapC gl) :: .row 79 2 (.slice so_ nk ca_) nk (obC ys) :: T) := hM.bring 6 rfl rfl
     replace hM : Mg w0 w38 (.row 79 2 (.slice so_ nk ca_) nk (obC ys) :: .obj r5 (.mapIter (some m) last ((seen ++ [o.x - 1])).toArray last) :: .obj g24 (.cells #[.int .i64 (((o.p : Nat) : Int)), .slice (some ⟨o.g, 0, none⟩) o.ws.length o.c] 79) :: .obj h (.cells #[.map (some m), .int .i64 (((last : Nat) : Int)), .int .i64 (((ss : Nat) : Int)), .slice sg gs.length sc, .int .i64 (((ls : Nat) : Int)), .slice lg gl.length lc] 73) :: .obj m (mapO (os.map Ob.en) last) :: .row 96 2 (.slice sg gs.length sc) gs.length (gapC gs) :: .row 96 2 (.slice lg gl.length lc) gl.length (gapC gl) :: T) := hM.bring 6 rfl rfl
     replace hM : Mg w0 w38 (.row 96 2 (.slice lg gl.length lc) gl.length (gapC gl) :: .row 79 2 (.slice so_ nk ca_) nk (obC ys) :: .obj r5 (.mapIter (some m) last ((seen ++ [o.x - 1])).toArray last) :: .obj g24 (.cells #[.int .i64 (((o.p : Nat) : Int)), .slice (some ⟨o.g, 0, none⟩) o.ws.length o.c] 79) :: .obj h (.cells #[.map (some m), .int .i64 (((last : Nat) : Int)), .int .i64 (((ss : Nat) : Int)), .slice sg gs.length sc, .int .i64 (((ls : Nat) : Int)), .slice lg gl.length lc] 73) :: .obj m (mapO (os.map Ob.en) last) :: .row 96 2 (.slice sg gs.length sc) gs.length (gapC gs) :: T) := hM.bring 6 rfl rfl
     replace hM : Mg w0 w38 (.row 96 2 (.slice sg gs.length sc) gs.length (gapC gs) :: .row 96 2 (.slice lg gl.length lc) gl.length (gapC gl) :: .row 79 2 (.slice so_ nk ca_) nk (obC ys) :: .obj r5 (.mapIter (some m) last ((seen ++ [o.x - 1])).toArray last) :: .obj g24 (.cells #[.int .i64 (((o.p : Nat) : Int)), .slice (some ⟨o.g, 0, none⟩) o.ws.length o.c] 79) :: .obj h (.cells #[.map (some m), .int .i64 (((last : Nat) : Int)), .int .i64 (((ss : Nat) : Int)), .slice sg gs.length sc, .int .i64 (((ls : Nat) : Int)), .slice lg gl.length lc] 73) :: .obj m (mapO (os.map Ob.en) last) :: T) := hM.bring 6 rfl rfl
     replace hM : Mg w0 w38 (.obj m (mapO (os.map Ob.en) last) :: .row 96 2 (.slice sg gs.length sc) gs.length (gapC gs) :: .row 96 2 (.slice lg gl.length lc) gl.length (gapC gl) :: .row 79 2 (.slice so_ nk ca_) nk (obC ys) :: .obj r5 (.mapIter (some m) last ((seen ++ [o.x - 1])).toArray last) :: .obj g24 (.cells #[.int .i64 (((o.p : Nat) : Int)), .slice (some ⟨o.g, 0, none⟩) o.ws.length o.c] 79) :: .obj h (.cells #[.map (some m), .int .i64 (((last : Nat) : Int)), .int .i64 (((ss : Nat) : Int)), .slice sg gs.length sc, .int .i64 (((ls : Nat) : Int)), .slice lg gl.length lc] 73) :: T) := hM.bring 6 rfl rfl
     replace hM : Mg w0 w38 (.obj h (.cells #[.map (some m), .int .i64 (((last : Nat) : Int)), .int .i64 (((ss : Nat) : Int)), .slice sg gs.length sc, .int .i64 (((ls : Nat) : Int)), .slice lg gl.length lc] 73) :: .obj m (mapO (os.map Ob.en) last) :: .row 96 2 (.slice sg gs.length sc) gs.length (gapC gs) :: .row 96 2 (.slice lg gl.length lc) gl.length (gapC gl) :: .row 79 2 (.slice so_ nk ca_) nk (obC ys) :: .obj r5 (.mapIter (some m) last ((seen ++ [o.x - 1])).toArray last) :: .obj g24 (.cells #[.int .i64 (((o.p : Nat) : Int)), .slice (some ⟨o.g, 0, none⟩) o.ws.length o.c] 79) :: T) := hM.bring 6 rfl rfl
     replace hM : Mg w0 w38 (.obj h (.cells #[.map (some m), .int .i64 (((last : Nat) : Int)), .int .i64 (((ss : Nat) : Int)), .slice sg gs.length sc, .int .i64 (((ls : Nat) : Int)), .slice lg gl.length lc] 73) :: .obj m (mapO (os.map Ob.en) last) :: .row 96 2 (.slice sg gs.length sc) gs.length (gapC gs) :: .row 96 2 (.slice lg gl.length lc) gl.length (gapC gl) :: .row 79 2 (.slice so_ nk ca_) nk (obC ys) :: .obj r5 (.mapIter (some m) last ((seen ++ [o.x - 1])).toArray last) :: T) := by
       have h9 := hM.sub (.cons_cons _ (.cons_cons _ (.cons_cons _ (.cons_cons _ (.cons_cons _ (.cons_cons _ (.cons _ (.refl _))))))))
       exact h9
     refine hK8 _ _ _ (by have := unseen_less hx.lo ho; omega) ⟨seen ++ [o.x - 1], ys, so_, ca_, nk, rfl, ⟨by rw [came_no hx.lo hx.rise ho (by show (decide (16 < ((o.ws.length : Nat) : Int)) == true) = false; rw [hb28]; rfl)]; exact hk, hnk⟩, hA.keep _ ⟨rfl, rfl, rfl, rfl, rfl, rfl, rfl, rfl, rfl, trivial⟩, hM⟩
theorem layGapS_any {w0 w : World} {fr to : Nat} {h m last ss ls sc lc : Nat} {sg lg : Option Addr} {gs gl : List (Nat × Nat)} {os : List Ob} {T : List Ck} (hgl : gs.length ≤ 1000000) (hto : to ≤ 100000000) (hM0 : Mg w0 w (.obj h (.cells #[.map (some m), .int .i64 (((last : Nat) : Int)), .int .i64 (((ss : Nat) : Int)), .slice sg gs.length sc, .int .i64 (((ls : Nat) : Int)), .slice lg gl.length lc] 73) :: .obj m (mapO (os.map Ob.en) last) :: .row 96 2 (.slice sg gs.length sc) gs.length (gapC gs) :: .row 96 2 (.slice lg gl.length lc) gl.length (gapC gl) :: T)) : Calls Try.prog 50 #[.pointer (some ⟨h, 2, none⟩), .int .i64 ((fr : Nat) : Int), .int .i64 ((to : Nat) : Int)] w fun e w' => ∃ so' ca', e = .returned (.tuple #[]) ∧ Mg w0 w' (.obj h (.cells #[.map (some m), .int .i64 (((last : Nat) : Int)), .int .i64 (((ss : Nat) : Int)), .slice so' ((gs ++ gap1 fr to).length) ca', .int .i64 (((ls : Nat) : Int)), .slice lg gl.length lc] 73) :: .obj m (mapO (os.map Ob.en) last) :: .row 96 2 (.slice so' ((gs ++ gap1 fr to).length) ca') ((gs ++ gap1 fr to).length) (gapC (gs ++ gap1 fr to)) :: .row 96 2 (.slice lg gl.length lc) gl.length (gapC gl) :: T) := by
 have hM : Mg w0 w (.obj h (.cells #[.map (some m), .int .i64 (((last : Nat) : Int)), .int .i64 (((ss : Nat) : Int)), .slice sg gs.length sc, .int .i64 (((ls : Nat) : Int)), .slice lg gl.length lc] 73) :: .obj m (mapO (os.map Ob.en) last) :: .row 96 2 (.slice sg gs.length sc) gs.length (gapC gs) :: .row 96 2 (.slice lg gl.length lc) gl.length (gapC gl) :: T) := hM0
 refine walk_of (l := [(0, .pointer (some ⟨h, 2, none⟩)), (1, .int .i64 (((fr : Nat) : Int))), (2, .int .i64 (((to : Nat) : Int)))]) Try.func50 rfl Try.ntmps50 rfl rfl ?_
 intro Q hret hnorm hP a hA
 refine wp_seq_k (fun K1 hK1 => ?_)
 refine wp_region_lit ?_
 refine seq_do hA rfl rfl rfl (does_move rfl) ?_
 intro a hA
 refine seq_do hA rfl rfl rfl (does_move rfl) ?_
 intro a hA
 rcases Bool.eq_false_or_eq_true (decide (((fr : Nat) : Int) < ((to : Nat) : Int))) with hb2 | hb2
 · have hb2' := of_decide_eq_true hb2
   refine seq_do (v := .bool true) hA rfl rfl rfl (does_bin rfl rfl (fun w => (bin_lss w).trans (by rw [hb2]))) ?_
   intro a hA
   refine seq_end ?_
   refine hK1 _ _ ?_
   refine wp_cond_true (hA.ev rfl) ?_
   refine wp_region_lit ?_
   refine seq_do hA rfl rfl rfl (does_move rfl) ?_
   intro a hA
   refine seq_do hA rfl rfl rfl (does_move rfl) ?_
   intro a hA
   refine seq_do hA rfl rfl rfl (does_nilq rfl) ?_
   intro a hA
   refine seq_do (v := .pointer (some ⟨h, 3, none⟩)) hA rfl rfl rfl (does_field HbH_fld_70_1 rfl rfl) ?_
   intro a hA
   refine seq_do hA rfl rfl rfl (m_load1 hM HbH_is1_68 rfl 0 rfl rfl) ?_
   intro a hA
   refine seq_do hA rfl rfl rfl (does_move rfl) ?_
   intro a hA
   refine seq_do hA rfl rfl rfl (does_move rfl) ?_
   intro a hA
   refine seq_do hA rfl rfl rfl (does_move rfl) ?_
   intro a hA
   refine seq_do (v := .int .i64 (((to - fr : Nat) : Int))) hA rfl rfl rfl (does_bin rfl rfl (ar_sub ((in_i64 (by omega) (by omega)).trans (by omega)))) ?_
   intro a hA
   refine seq_do (v := .agg #[.int .i64 (((fr : Nat) : Int)), .int .i64 (((to - fr : Nat) : Int))]) hA rfl rfl rfl (does_build rfl (fun w => by kernel_rfl)) ?_
   intro a hA
   refine s_litE (e := 96) (sz := 2) (m := 1) (vs := gapC [(fr, to - fr)]) hA hM rfl rfl rfl (does_buildSlice rfl (by kernel_rfl)) rfl rfl (.inl (by decide)) ?_
   intro g3 w4 hM a hA
   refine s_appendE (e := 96) (sz := 2) (k := 3) (q := gs.length) (m := 1) (xs := gapC gs) (news := gapC [(fr, to - fr)]) (L' := fun v5 => (.row 96 2 (.slice (some ⟨g3, 0, none⟩) 1 1) 1 (gapC [(fr, to - fr)]) :: .obj h (.cells #[.map (some m), .int .i64 (((last : Nat) : Int)), .int .i64 (((ss : Nat) : Int)), .slice sg gs.length sc, .int .i64 (((ls : Nat) : Int)), .slice lg gl.length lc] 73) :: .obj m (mapO (os.map Ob.en) last) :: .row 96 2 (v5) (gs.length + 1) (gapC gs ++ gapC [(fr, to - fr)]) :: .row 96 2 (.slice lg gl.length lc) gl.length (gapC gl) :: T)) hA rfl rfl rfl (m_appendE (z := .agg #[.int .i64 0, .int .i64 0]) (sz := 2) (by_ := 16) Try.underlying68 (by kernel_rfl) rfl rfl rfl hM 3 rfl rfl 0 rfl rfl rfl rfl (by omega)) (fun _ => rfl) ?_
   intro v5 w6 hM a hA
   replace hM : Mg w0 w6 (.row 96 2 (.slice (some ⟨g3, 0, none⟩) 1 1) 1 (gapC [(fr, to - fr)]) :: .obj h (.cells #[.map (some m), .int .i64 (((last : Nat) : Int)), .int .i64 (((ss : Nat) : Int)), .slice sg gs.length sc, .int .i64 (((ls : Nat) : Int)), .slice lg gl.length lc] 73) :: .obj m (mapO (os.map Ob.en) last) :: .row 96 2 (v5) (gs.length + 1) (gapC (gs ++ [(fr, to - fr)])) :: .row 96 2 (.slice lg gl.length lc) gl.length (gapC gl) :: T) := by rw [gapC_append]; exact hM
   obtain ⟨so7, ca8, rfl⟩ := owns_anyH (hM.has 3 rfl)
   refine seq_do hA rfl rfl rfl (does_nilq rfl) ?_
   intro a hA
   refine seq_do (v := .pointer (some ⟨h, 3, none⟩)) hA rfl rfl rfl (does_field HbH_fld_70_1 rfl rfl) ?_
   intro a hA
   refine s_store (us := [.map (some m), .int .i64 (((last : Nat) : Int)), .int .i64 (((ss : Nat) : Int)), .slice so7 (gs.length + 1) ca8, .int .i64 (((ls : Nat) : Int)), .slice lg gl.length lc]) (L' := (.row 96 2 (.slice (some ⟨g3, 0, none⟩) 1 1) 1 (gapC [(fr, to - fr)]) :: .obj h (.cells #[.map (some m), .int .i64 (((last : Nat) : Int)), .int .i64 (((ss : Nat) : Int)), .slice so7 (gs.length + 1) ca8, .int .i64 (((ls : Nat) : Int)), .slice lg gl.length lc] 73) :: .obj m (mapO (os.map Ob.en) last) :: .row 96 2 (.slice so7 (gs.length + 1) ca8) (gs.length + 1) (gapC (gs ++ [(fr, to - fr)])) :: .row 96 2 (.slice lg gl.length lc) gl.length (gapC gl) :: T)) hA hM rfl rfl (m_store rfl rfl rfl (by kernel_rfl) hM 1 rfl rfl rfl) 1 rfl rfl rfl ?_
   intro w9 hM
   refine seq_end ?_
   refine hnorm _ _ ?_
   refine ends (v := .tuple #[]) hA rfl .nil rfl ?_
   replace hM : Mg w0 w9 (.row 96 2 (.slice lg gl.length lc) gl.length (gapC gl) :: .row 96 2 (.slice (some ⟨g3, 0, none⟩) 1 1) 1 (gapC [(fr, to - fr)]) :: .obj h (.cells #[.map (some m), .int .i64 (((last : Nat) : Int)), .int .i64 (((ss : Nat) : Int)), .slice so7 (gs.length + 1) ca8, .int .i64 (((ls : Nat) : Int)), .slice lg gl.length lc] 73) :: .obj m (mapO (os.map Ob.en) last) :: .row 96 2 (.slice so7 (gs.length + 1) ca8) (gs.length + 1) (gapC (gs ++ [(fr, to - fr)])) :: T) := hM.bring 4 rfl rfl
   replace hM : Mg w0 w9 (.row 96 2 (.slice so7 (gs.length + 1) ca8) (gs.length + 1) (gapC (gs ++ [(fr, to - fr)])) :: .row 96 2 (.slice lg gl.length lc) gl.length (gapC gl) :: .row 96 2 (.slice (some ⟨g3, 0, none⟩) 1 1) 1 (gapC [(fr, to - fr)]) :: .obj h (.cells #[.map (some m), .int .i64 (((last : Nat) : Int)), .int .i64 (((ss : Nat) : Int)), .slice so7 (gs.length + 1) ca8, .int .i64 (((ls : Nat) : Int)), .slice lg gl.length lc] 73) :: .obj m (mapO (os.map Ob.en) last) :: T) := hM.bring 4 rfl rfl
   replace hM : Mg w0 w9 (.obj m (mapO (os.map Ob.en) last) :: .row 96 2 (.slice so7 (gs.length + 1) ca8) (gs.length + 1) (gapC (gs ++ [(fr, to - fr)])) :: .row 96 2 (.slice lg gl.length lc) gl.length (gapC gl) :: .row 96 2 (.slice (some ⟨g3, 0, none⟩) 1 1) 1 (gapC [(fr, to - fr)]) :: .obj h (.cells #[.map (some m), .int .i64 (((last : Nat) : Int)), .int .i64 (((ss : Nat) : Int)), .slice so7 (gs.length + 1) ca8, .int .i64 (((ls : Nat) : Int)), .slice lg gl.length lc] 73) :: T) := hM.bring 4 rfl rfl
   replace hM : Mg w0 w9 (.obj h (.cells #[.map (some m), .int .i64 (((last : Nat) : Int)), .int .i64 (((ss : Nat) : Int)), .slice so7 (gs.length + 1) ca8, .int .i64 (((ls : Nat) : Int)), .slice lg gl.length lc] 73) :: .obj m (mapO (os.map Ob.en) last) :: .row 96 2 (.slice so7 (gs.length + 1) ca8) (gs.length + 1) (gapC (gs ++ [(fr, to - fr)])) :: .row 96 2 (.slice lg gl.length lc) gl.length (gapC gl) :: .row 96 2 (.slice (some ⟨g3, 0, none⟩) 1 1) 1 (gapC [(fr, to - fr)]) :: T) := hM.bring 4 rfl rfl
   replace hM : Mg w0 w9 (.obj h (.cells #[.map (some m), .int .i64 (((last : Nat) : Int)), .int .i64 (((ss : Nat) : Int)), .slice so7 (gs.length + 1) ca8, .int .i64 (((ls : Nat) : Int)), .slice lg gl.length lc] 73) :: .obj m (mapO (os.map Ob.en) last) :: .row 96 2 (.slice so7 (gs.length + 1) ca8) (gs.length + 1) (gapC (gs ++ [(fr, to - fr)])) :: .row 96 2 (.slice lg gl.length lc) gl.length (gapC gl) :: T) := by
     have h9 := hM.sub (.cons_cons _ (.cons_cons _ (.cons_cons _ (.cons_cons _ (.cons _ (.refl _))))))
     exact h9
   have e9 : gap1 fr to = [(fr, to - fr)] := by unfold gap1; rw [if_pos (by omega)]
   refine ⟨so7, ca8, rfl, ?_⟩
   rw [e9, show (gs ++ [(fr, to - fr)]).length = gs.length + 1 from by simp]
   exact hM
 · have hb2' := of_decide_eq_false hb2
   refine seq_do (v := .bool false) hA rfl rfl rfl (does_bin rfl rfl (fun w => (bin_lss w).trans (by rw [hb2]))) ?_
   intro a hA
   refine seq_end ?_
   refine hK1 _ _ ?_
   refine wp_cond_false (hA.ev rfl) ?_
   refine wp_skip ?_
   refine hnorm _ _ ?_
   refine ends (v := .tuple #[]) hA rfl .nil rfl ?_
   replace hM : Mg w0 w (.row 96 2 (.slice lg gl.length lc) gl.length (gapC gl) :: .obj h (.cells #[.map (some m), .int .i64 (((last : Nat) : Int)), .int .i64 (((ss : Nat) : Int)), .slice sg gs.length sc, .int .i64 (((ls : Nat) : Int)), .slice lg gl.length lc] 73) :: .obj m (mapO (os.map Ob.en) last) :: .row 96 2 (.slice sg gs.length sc) gs.length (gapC gs) :: T) := hM.bring 3 rfl rfl
   replace hM : Mg w0 w (.row 96 2 (.slice sg gs.length sc) gs.length (gapC gs) :: .row 96 2 (.slice lg gl.length lc) gl.length (gapC gl) :: .obj h (.cells #[.map (some m), .int .i64 (((last : Nat) : Int)), .int .i64 (((ss : Nat) : Int)), .slice sg gs.length sc, .int .i64 (((ls : Nat) : Int)), .slice lg gl.length lc] 73) :: .obj m (mapO (os.map Ob.en) last) :: T) := hM.bring 3 rfl rfl
   replace hM : Mg w0 w (.obj m (mapO (os.map Ob.en) last) :: .row 96 2 (.slice sg gs.length sc) gs.length (gapC gs) :: .row 96 2 (.slice lg gl.length lc) gl.length (gapC gl) :: .obj h (.cells #[.map (some m), .int .i64 (((last : Nat) : Int)), .int .i64 (((ss : Nat) : Int)), .slice sg gs.length sc, .int .i64 (((ls : Nat) : Int)), .slice lg gl.length lc] 73) :: T) := hM.bring 3 rfl rfl
   replace hM : Mg w0 w (.obj h (.cells #[.map (some m), .int .i64 (((last : Nat) : Int)), .int .i64 (((ss : Nat) : Int)), .slice sg gs.length sc, .int .i64 (((ls : Nat) : Int)), .slice lg gl.length lc] 73) :: .obj m (mapO (os.map Ob.en) last) :: .row 96 2 (.slice sg gs.length sc) gs.length (gapC gs) :: .row 96 2 (.slice lg gl.length lc) gl.length (gapC gl) :: T) := hM.bring 3 rfl rfl
   have e9 : gap1 fr to = [] := by unfold gap1; rw [if_neg (by omega)]
   refine ⟨sg, sc, rfl, ?_⟩
   rw [e9, List.append_nil]
   exact hM
theorem layGapL_any {w0 w : World} {fr to : Nat} {h m last ss ls sc lc : Nat} {sg lg : Option Addr} {gs gl : List (Nat × Nat)} {os : List Ob} {T : List Ck} (hgl : gl.length ≤ 1000000) (hto : to ≤ 100000000) (hM0 : Mg w0 w (.obj h (.cells #[.map (some m), .int .i64 (((last : Nat) : Int)), .int .i64 (((ss : Nat) : Int)), .slice sg gs.length sc, .int .i64 (((ls : Nat) : Int)), .slice lg gl.length lc] 73) :: .obj m (mapO (os.map Ob.en) last) :: .row 96 2 (.slice sg gs.length sc) gs.length (gapC gs) :: .row 96 2 (.slice lg gl.length lc) gl.length (gapC gl) :: T)) : Calls Try.prog 50 #[.pointer (some ⟨h, 4, none⟩), .int .i64 ((fr : Nat) : Int), .int .i64 ((to : Nat) : Int)] w fun e w' => ∃ so' ca', e = .returned (.tuple #[]) ∧ Mg w0 w' (.obj h (.cells #[.map (some m), .int .i64 (((last : Nat) : Int)), .int .i64 (((ss : Nat) : Int)), .slice sg gs.length sc, .int .i64 (((ls : Nat) : Int)), .slice so' ((gl ++ gap1 fr to).length) ca'] 73) :: .obj m (mapO (os.map Ob.en) last) :: .row 96 2 (.slice sg gs.length sc) gs.length (gapC gs) :: .row 96 2 (.slice so' ((gl ++ gap1 fr to).length) ca') ((gl ++ gap1 fr to).length) (gapC (gl ++ gap1 fr to)) :: T) := by
 have hM : Mg w0 w (.obj h (.cells #[.map (some m), .int .i64 (((last : Nat) : Int)), .int .i64 (((ss : Nat) : Int)), .slice sg gs.length sc, .int .i64 (((ls : Nat) : Int)), .slice lg gl.length lc] 73) :: .obj m (mapO (os.map Ob.en) last) :: .row 96 2 (.slice sg gs.length sc) gs.length (gapC gs) :: .row 96 2 (.slice lg gl.length lc) gl.length (gapC gl) :: T) := hM0
 refine walk_of (l := [(0, .pointer (some ⟨h, 4, none⟩)), (1, .int .i64 (((fr : Nat) : Int))), (2, .int .i64 (((to : Nat) : Int)))]) Try.func50 rfl Try.ntmps50 rfl rfl ?_
 intro Q hret hnorm hP a hA
 refine wp_seq_k (fun K1 hK1 => ?_)
 refine wp_region_lit ?_
 refine seq_do hA rfl rfl rfl (does_move rfl) ?_
 intro a hA
 refine seq_do hA rfl rfl rfl (does_move rfl) ?_
 intro a hA
 rcases Bool.eq_false_or_eq_true (decide (((fr : Nat) : Int) < ((to : Nat) : Int))) with hb2 | hb2
 · have hb2' := of_decide_eq_true hb2
   refine seq_do (v := .bool true) hA rfl rfl rfl (does_bin rfl rfl (fun w => (bin_lss w).trans (by rw [hb2]))) ?_
   intro a hA
   refine seq_end ?_
   refine hK1 _ _ ?_
   refine wp_cond_true (hA.ev rfl) ?_
   refine wp_region_lit ?_
   refine seq_do hA rfl rfl rfl (does_move rfl) ?_
   intro a hA
   refine seq_do hA rfl rfl rfl (does_move rfl) ?_
   intro a hA
   refine seq_do hA rfl rfl rfl (does_nilq rfl) ?_
   intro a hA
   refine seq_do (v := .pointer (some ⟨h, 5, none⟩)) hA rfl rfl rfl (does_field HbH_fld_70_1 rfl rfl) ?_
   intro a hA
   refine seq_do hA rfl rfl rfl (m_load1 hM HbH_is1_68 rfl 0 rfl rfl) ?_
   intro a hA
   refine seq_do hA rfl rfl rfl (does_move rfl) ?_
   intro a hA
   refine seq_do hA rfl rfl rfl (does_move rfl) ?_
   intro a hA
   refine seq_do hA rfl rfl rfl (does_move rfl) ?_
   intro a hA
   refine seq_do (v := .int .i64 (((to - fr : Nat) : Int))) hA rfl rfl rfl (does_bin rfl rfl (ar_sub ((in_i64 (by omega) (by omega)).trans (by omega)))) ?_
   intro a hA
   refine seq_do (v := .agg #[.int .i64 (((fr : Nat) : Int)), .int .i64 (((to - fr : Nat) : Int))]) hA rfl rfl rfl (does_build rfl (fun w => by kernel_rfl)) ?_
   intro a hA
   refine s_litE (e := 96) (sz := 2) (m := 1) (vs := gapC [(fr, to - fr)]) hA hM rfl rfl rfl (does_buildSlice rfl (by kernel_rfl)) rfl rfl (.inl (by decide)) ?_
   intro g3 w4 hM a hA
   refine s_appendE (e := 96) (sz := 2) (k := 4) (q := gl.length) (m := 1) (xs := gapC gl) (news := gapC [(fr, to - fr)]) (L' := fun v5 => (.row 96 2 (.slice (some ⟨g3, 0, none⟩) 1 1) 1 (gapC [(fr, to - fr)]) :: .obj h (.cells #[.map (some m), .int .i64 (((last : Nat) : Int)), .int .i64 (((ss : Nat) : Int)), .slice sg gs.length sc, .int .i64 (((ls : Nat) : Int)), .slice lg gl.length lc] 73) :: .obj m (mapO (os.map Ob.en) last) :: .row 96 2 (.slice sg gs.length sc) gs.length (gapC gs) :: .row 96 2 (v5) (gl.length + 1) (gapC gl ++ gapC [(fr, to - fr)]) :: T)) hA rfl rfl rfl (m_appendE (z := .agg #[.int .i64 0, .int .i64 0]) (sz := 2) (by_ := 16) Try.underlying68 (by kernel_rfl) rfl rfl rfl hM 4 rfl rfl 0 rfl rfl rfl rfl (by omega)) (fun _ => rfl) ?_
   intro v5 w6 hM a hA
   replace hM : Mg w0 w6 (.row 96 2 (.slice (some ⟨g3, 0, none⟩) 1 1) 1 (gapC [(fr, to - fr)]) :: .obj h (.cells #[.map (some m), .int .i64 (((last : Nat) : Int)), .int .i64 (((ss : Nat) : Int)), .slice sg gs.length sc, .int .i64 (((ls : Nat) : Int)), .slice lg gl.length lc] 73) :: .obj m (mapO (os.map Ob.en) last) :: .row 96 2 (.slice sg gs.length sc) gs.length (gapC gs) :: .row 96 2 (v5) (gl.length + 1) (gapC (gl ++ [(fr, to - fr)])) :: T) := by rw [gapC_append]; exact hM
   obtain ⟨so7, ca8, rfl⟩ := owns_anyH (hM.has 4 rfl)
   refine seq_do hA rfl rfl rfl (does_nilq rfl) ?_
   intro a hA
   refine seq_do (v := .pointer (some ⟨h, 5, none⟩)) hA rfl rfl rfl (does_field HbH_fld_70_1 rfl rfl) ?_
   intro a hA
   refine s_store (us := [.map (some m), .int .i64 (((last : Nat) : Int)), .int .i64 (((ss : Nat) : Int)), .slice sg gs.length sc, .int .i64 (((ls : Nat) : Int)), .slice so7 (gl.length + 1) ca8]) (L' := (.row 96 2 (.slice (some ⟨g3, 0, none⟩) 1 1) 1 (gapC [(fr, to - fr)]) :: .obj h (.cells #[.map (some m), .int .i64 (((last : Nat) : Int)), .int .i64 (((ss : Nat) : Int)), .slice sg gs.length sc, .int .i64 (((ls : Nat) : Int)), .slice so7 (gl.length + 1) ca8] 73) :: .obj m (mapO (os.map Ob.en) last) :: .row 96 2 (.slice sg gs.length sc) gs.length (gapC gs) :: .row 96 2 (.slice so7 (gl.length + 1) ca8) (gl.length + 1) (gapC (gl ++ [(fr, to - fr)])) :: T)) hA hM rfl rfl (m_store rfl rfl rfl (by kernel_rfl) hM 1 rfl rfl rfl) 1 rfl rfl rfl ?_
   intro w9 hM
   refine seq_end ?_
   refine hnorm _ _ ?_
   refine ends (v := .tuple #[]) hA rfl .nil rfl ?_
   replace hM : Mg w0 w9 (.row 96 2 (.slice so7 (gl.length + 1) ca8) (gl.length + 1) (gapC (gl ++ [(fr, to - fr)])) :: .row 96 2 (.slice (some ⟨g3, 0, none⟩) 1 1) 1 (gapC [(fr, to - fr)]) :: .obj h (.cells #[.map (some m), .int .i64 (((last : Nat) : Int)), .int .i64 (((ss : Nat) : Int)), .slice sg gs.length sc, .int .i64 (((ls : Nat) : Int)), .slice so7 (gl.length + 1) ca8] 73) :: .obj m (mapO (os.map Ob.en) last) :: .row 96 2 (.slice sg gs.length sc) gs.length (gapC gs) :: T) := hM.bring 4 rfl rfl
   replace hM : Mg w0 w9 (.row 96 2 (.slice sg gs.length sc) gs.length (gapC gs) :: .row 96 2 (.slice so7 (gl.length + 1) ca8) (gl.length + 1) (gapC (gl ++ [(fr, to - fr)])) :: .row 96 2 (.slice (some ⟨g3, 0, none⟩) 1 1) 1 (gapC [(fr, to - fr)]) :: .obj h (.cells #[.map (some m), .int .i64 (((last : Nat) : Int)), .int .i64 (((ss : Nat) : Int)), .slice sg gs.length sc, .int .i64 (((ls : Nat) : Int)), .slice so7 (gl.length + 1) ca8] 73) :: .obj m (mapO (os.map Ob.en) last) :: T) := hM.bring 4 rfl rfl
   replace hM : Mg w0 w9 (.obj m (mapO (os.map Ob.en) last) :: .row 96 2 (.slice sg gs.length sc) gs.length (gapC gs) :: .row 96 2 (.slice so7 (gl.length + 1) ca8) (gl.length + 1) (gapC (gl ++ [(fr, to - fr)])) :: .row 96 2 (.slice (some ⟨g3, 0, none⟩) 1 1) 1 (gapC [(fr, to - fr)]) :: .obj h (.cells #[.map (some m), .int .i64 (((last : Nat) : Int)), .int .i64 (((ss : Nat) : Int)), .slice sg gs.length sc, .int .i64 (((ls : Nat) : Int)), .slice so7 (gl.length + 1) ca8] 73) :: T) := hM.bring 4 rfl rfl
   replace hM : Mg w0 w9 (.obj h (.cells #[.map (some m), .int .i64 (((last : Nat) : Int)), .int .i64 (((ss : Nat) : Int)), .slice sg gs.length sc, .int .i64 (((ls : Nat) : Int)), .slice so7 (gl.length + 1) ca8] 73) :: .obj m (mapO (os.map Ob.en) last) :: .row 96 2 (.slice sg gs.length sc) gs.length (gapC gs) :: .row 96 2 (.slice so7 (gl.length + 1) ca8) (gl.length + 1) (gapC (gl ++ [(fr, to - fr)])) :: .row 96 2 (.slice (some ⟨g3, 0, none⟩) 1 1) 1 (gapC [(fr, to - fr)]) :: T) := hM.bring 4 rfl rfl
   replace hM : Mg w0 w9 (.obj h (.cells #[.map (some m), .int .i64 (((last : Nat) : Int)), .int .i64 (((ss : Nat) : Int)), .slice sg gs.length sc, .int .i64 (((ls : Nat) : Int)), .slice so7 (gl.length + 1) ca8] 73) :: .obj m (mapO (os.map Ob.en) last) :: .row 96 2 (.slice sg gs.length sc) gs.length (gapC gs) :: .row 96 2 (.slice so7 (gl.length + 1) ca8) (gl.length + 1) (gapC (gl ++ [(fr, to - fr)])) :: T) := by
     have h9 := hM.sub (.cons_cons _ (.cons_cons _ (.cons_cons _ (.cons_cons _ (.cons _ (.refl _))))))
     exact h9
   have e9 : gap1 fr to = [(fr, to - fr)] := by unfold gap1; rw [if_pos (by omega)]
   refine ⟨so7, ca8, rfl, ?_⟩
   rw [e9, show (gl ++ [(fr, to - fr)]).length = gl.length + 1 from by simp]
   exact hM
 · have hb2' := of_decide_eq_false hb2
   refine seq_do (v := .bool false) hA rfl rfl rfl (does_bin rfl rfl (fun w => (bin_lss w).trans (by rw [hb2]))) ?_
   intro a hA
   refine seq_end ?_
   refine hK1 _ _ ?_
   refine wp_cond_false (hA.ev rfl) ?_
   refine wp_skip ?_
   refine hnorm _ _ ?_
   refine ends (v := .tuple #[]) hA rfl .nil rfl ?_
   replace hM : Mg w0 w (.row 96 2 (.slice lg gl.length lc) gl.length (gapC gl) :: .obj h (.cells #[.map (some m), .int .i64 (((last : Nat) : Int)), .int .i64 (((ss : Nat) : Int)), .slice sg gs.length sc, .int .i64 (((ls : Nat) : Int)), .slice lg gl.length lc] 73) :: .obj m (mapO (os.map Ob.en) last) :: .row 96 2 (.slice sg gs.length sc) gs.length (gapC gs) :: T) := hM.bring 3 rfl rfl
   replace hM : Mg w0 w (.row 96 2 (.slice sg gs.length sc) gs.length (gapC gs) :: .row 96 2 (.slice lg gl.length lc) gl.length (gapC gl) :: .obj h (.cells #[.map (some m), .int .i64 (((last : Nat) : Int)), .int .i64 (((ss : Nat) : Int)), .slice sg gs.length sc, .int .i64 (((ls : Nat) : Int)), .slice lg gl.length lc] 73) :: .obj m (mapO (os.map Ob.en) last) :: T) := hM.bring 3 rfl rfl
   replace hM : Mg w0 w (.obj m (mapO (os.map Ob.en) last) :: .row 96 2 (.slice sg gs.length sc) gs.length (gapC gs) :: .row 96 2 (.slice lg gl.length lc) gl.length (gapC gl) :: .obj h (.cells #[.map (some m), .int .i64 (((last : Nat) : Int)), .int .i64 (((ss : Nat) : Int)), .slice sg gs.length sc, .int .i64 (((ls : Nat) : Int)), .slice lg gl.length lc] 73) :: T) := hM.bring 3 rfl rfl
   replace hM : Mg w0 w (.obj h (.cells #[.map (some m), .int .i64 (((last : Nat) : Int)), .int .i64 (((ss : Nat) : Int)), .slice sg gs.length sc, .int .i64 (((ls : Nat) : Int)), .slice lg gl.length lc] 73) :: .obj m (mapO (os.map Ob.en) last) :: .row 96 2 (.slice sg gs.length sc) gs.length (gapC gs) :: .row 96 2 (.slice lg gl.length lc) gl.length (gapC gl) :: T) := hM.bring 3 rfl rfl
   have e9 : gap1 fr to = [] := by unfold gap1; rw [if_neg (by omega)]
   refine ⟨lg, lc, rfl, ?_⟩
   rw [e9, List.append_nil]
   exact hM
theorem layGapsS_any {w0 w : World} {h m last ss ls sc lc : Nat} {sg lg : Option Addr} {gs gl : List (Nat × Nat)} {os : List Ob} {T : List Ck} {zs : List Ob} {zo : Option Addr} {zc : Nat} (hzl : zs.length ≤ 1000000) (hsz : ss ≤ 65536) (hcl : ∀ o ∈ zs, o.ws.length ≤ 1000000) (hpp : ∀ o ∈ zs, o.p ≤ 65536) (hnT : noBld T) (hM0 : Mg w0 w (.obj h (.cells #[.map (some m), .int .i64 (((last : Nat) : Int)), .int .i64 (((ss : Nat) : Int)), .slice sg gs.length sc, .int .i64 (((ls : Nat) : Int)), .slice lg gl.length lc] 73) :: .obj m (mapO (os.map Ob.en) last) :: .row 96 2 (.slice sg gs.length sc) gs.length (gapC gs) :: .row 96 2 (.slice lg gl.length lc) gl.length (gapC gl) :: .row 79 2 (.slice zo zs.length zc) zs.length (obC zs) :: T)) : Calls Try.prog 38 #[.pointer (some ⟨h, 2, none⟩), .slice zo zs.length zc] w fun e w' => ∃ so' ca', e = .returned (.tuple #[]) ∧ Mg w0 w' (.obj h (.cells #[.map (some m), .int .i64 (((last : Nat) : Int)), .int .i64 (((ss : Nat) : Int)), .slice so' ((freeG ss zs).length) ca', .int .i64 (((ls : Nat) : Int)), .slice lg gl.length lc] 73) :: .obj m (mapO (os.map Ob.en) last) :: .row 96 2 (.slice so' ((freeG ss zs).length) ca') ((freeG ss zs).length) (gapC (freeG ss zs)) :: .row 96 2 (.slice lg gl.length lc) gl.length (gapC gl) :: T) := by
 have hM : Mg w0 w (.obj h (.cells #[.map (some m), .int .i64 (((last : Nat) : Int)), .int .i64 (((ss : Nat) : Int)), .slice sg gs.length sc, .int .i64 (((ls : Nat) : Int)), .slice lg gl.length lc] 73) :: .obj m (mapO (os.map Ob.en) last) :: .row 96 2 (.slice sg gs.length sc) gs.length (gapC gs) :: .row 96 2 (.slice lg gl.length lc) gl.length (gapC gl) :: .row 79 2 (.slice zo zs.length zc) zs.length (obC zs) :: T) := hM0
 refine walk_of (l := [(0, .pointer (some ⟨h, 2, none⟩)), (1, .slice zo zs.length zc)]) Try.func38 rfl Try.ntmps38 rfl rfl ?_
 intro Q hret hnorm hP a hA
 refine wp_seq_k (fun K1 hK1 => ?_)
 refine wp_region_lit ?_
 refine seq_do hA rfl rfl rfl (does_move rfl) ?_
 intro a hA
 refine seq_do hA rfl rfl rfl (does_nilq rfl) ?_
 intro a hA
 refine seq_do (v := .pointer (some ⟨h, 3, none⟩)) hA rfl rfl rfl (does_field HbH_fld_70_1 rfl rfl) ?_
 intro a hA
 refine s_store (us := [.map (some m), .int .i64 (((last : Nat) : Int)), .int .i64 (((ss : Nat) : Int)), .slice none 0 0, .int .i64 (((ls : Nat) : Int)), .slice lg gl.length lc]) (L' := (.obj h (.cells #[.map (some m), .int .i64 (((last : Nat) : Int)), .int .i64 (((ss : Nat) : Int)), .slice none 0 0, .int .i64 (((ls : Nat) : Int)), .slice lg gl.length lc] 73) :: .obj m (mapO (os.map Ob.en) last) :: .row 96 2 (.slice sg gs.length sc) gs.length (gapC gs) :: .row 96 2 (.slice lg gl.length lc) gl.length (gapC gl) :: .row 79 2 (.slice zo zs.length zc) zs.length (obC zs) :: T)) hA hM rfl rfl (m_store rfl rfl rfl (by kernel_rfl) hM 0 rfl rfl rfl) 0 rfl rfl rfl ?_
 intro w2 hM
 refine seq_end ?_
 refine hK1 _ _ ?_
 refine wp_seq_k (fun K3 hK3 => ?_)
 refine wp_region_lit ?_
 refine seq_do hA rfl rfl rfl (does_assign rfl) ?_
 intro a hA
 refine seq_end ?_
 refine hK3 _ _ ?_
 refine wp_seq_k (fun K4 hK4 => ?_)
 refine wp_seq_k (fun K5 hK5 => ?_)
 refine wp_region_lit ?_
 refine seq_do hA rfl rfl rfl (does_move rfl) ?_
 intro a hA
 refine seq_do (v := .int .i64 (((zs.length : Nat) : Int))) hA rfl rfl rfl (does_len Try.underlying90 rfl) ?_
 intro a hA
 refine seq_do hA rfl rfl rfl (does_move rfl) ?_
 intro a hA
 refine seq_end ?_
 refine hK5 _ _ ?_
 refine wp_block ?_
 replace hM := hM.nilRowH (noBld_cons (by simp) (noBld_cons (by simp) (noBld_cons (by simp) (noBld_cons (by simp) (noBld_cons (by simp) hnT))))) 96 2
 replace hM : Mg w0 w2 (.row 79 2 (.slice zo zs.length zc) zs.length (obC zs) :: .row 96 2 (.slice none 0 0) 0 (gapC []) :: .obj h (.cells #[.map (some m), .int .i64 (((last : Nat) : Int)), .int .i64 (((ss : Nat) : Int)), .slice none 0 0, .int .i64 (((ls : Nat) : Int)), .slice lg gl.length lc] 73) :: .obj m (mapO (os.map Ob.en) last) :: .row 96 2 (.slice sg gs.length sc) gs.length (gapC gs) :: .row 96 2 (.slice lg gl.length lc) gl.length (gapC gl) :: T) := hM.bring 5 rfl rfl
 replace hM : Mg w0 w2 (.row 96 2 (.slice lg gl.length lc) gl.length (gapC gl) :: .row 79 2 (.slice zo zs.length zc) zs.length (obC zs) :: .row 96 2 (.slice none 0 0) 0 (gapC []) :: .obj h (.cells #[.map (some m), .int .i64 (((last : Nat) : Int)), .int .i64 (((ss : Nat) : Int)), .slice none 0 0, .int .i64 (((ls : Nat) : Int)), .slice lg gl.length lc] 73) :: .obj m (mapO (os.map Ob.en) last) :: .row 96 2 (.slice sg gs.length sc) gs.length (gapC gs) :: T) := hM.bring 5 rfl rfl
 replace hM : Mg w0 w2 (.row 96 2 (.slice none 0 0) 0 (gapC []) :: .row 96 2 (.slice lg gl.length lc) gl.length (gapC gl) :: .row 79 2 (.slice zo zs.length zc) zs.length (obC zs) :: .obj h (.cells #[.map (some m), .int .i64 (((last : Nat) : Int)), .int .i64 (((ss : Nat) : Int)), .slice none 0 0, .int .i64 (((ls : Nat) : Int)), .slice lg gl.length lc] 73) :: .obj m (mapO (os.map Ob.en) last) :: .row 96 2 (.slice sg gs.length sc) gs.length (gapC gs) :: T) := hM.bring 2 rfl rfl
 replace hM : Mg w0 w2 (.obj m (mapO (os.map Ob.en) last) :: .row 96 2 (.slice none 0 0) 0 (gapC []) :: .row 96 2 (.slice lg gl.length lc) gl.length (gapC gl) :: .row 79 2 (.slice zo zs.length zc) zs.length (obC zs) :: .obj h (.cells #[.map (some m), .int .i64 (((last : Nat) : Int)), .int .i64 (((ss : Nat) : Int)), .slice none 0 0, .int .i64 (((ls : Nat) : Int)), .slice lg gl.length lc] 73) :: .row 96 2 (.slice sg gs.length sc) gs.length (gapC gs) :: T) := hM.bring 4 rfl rfl
 replace hM : Mg w0 w2 (.obj h (.cells #[.map (some m), .int .i64 (((last : Nat) : Int)), .int .i64 (((ss : Nat) : Int)), .slice none 0 0, .int .i64 (((ls : Nat) : Int)), .slice lg gl.length lc] 73) :: .obj m (mapO (os.map Ob.en) last) :: .row 96 2 (.slice none 0 0) 0 (gapC []) :: .row 96 2 (.slice lg gl.length lc) gl.length (gapC gl) :: .row 79 2 (.slice zo zs.length zc) zs.length (obC zs) :: .row 96 2 (.slice sg gs.length sc) gs.length (gapC gs) :: T) := hM.bring 4 rfl rfl
 replace hM : Mg w0 w2 (.obj h (.cells #[.map (some m), .int .i64 (((last : Nat) : Int)), .int .i64 (((ss : Nat) : Int)), .slice none 0 0, .int .i64 (((ls : Nat) : Int)), .slice lg gl.length lc] 73) :: .obj m (mapO (os.map Ob.en) last) :: .row 96 2 (.slice none 0 0) 0 (gapC []) :: .row 96 2 (.slice lg gl.length lc) gl.length (gapC gl) :: .row 79 2 (.slice zo zs.length zc) zs.length (obC zs) :: T) := by
   have h9 := hM.sub (.cons_cons _ (.cons_cons _ (.cons_cons _ (.cons_cons _ (.cons_cons _ (.cons _ (.refl _)))))))
   exact h9
 refine wp_loop_n (fun m_ a w1 => ∃ (i : Nat) (bh : Nat) (gx : List (Nat × Nat)) (so_ : Option Addr) (ca_ : Nat), m_ = 1 + (zs.length - i) ∧ (i ≤ zs.length ∧ bh = layB 0 (zs.take i) ∧ gx = layG 0 (zs.take i)) ∧ Sl a 35 [(0, .pointer (some ⟨h, 2, none⟩)), (1, .slice zo zs.length zc), (4, .int .i64 (((bh : Nat) : Int))), (7, .pointer (some ⟨h, 2, none⟩)), (8, .pointer (some ⟨h, 2, none⟩)), (9, .pointer (some ⟨h, 3, none⟩)), (10, .slice zo zs.length zc), (11, .int .i64 (((zs.length : Nat) : Int))), (12, .int .i64 (((i : Nat) : Int)))] ∧ Mg w0 w1 (.obj h (.cells #[.map (some m), .int .i64 (((last : Nat) : Int)), .int .i64 (((ss : Nat) : Int)), .slice so_ gx.length ca_, .int .i64 (((ls : Nat) : Int)), .slice lg gl.length lc] 73) :: .obj m (mapO (os.map Ob.en) last) :: .row 96 2 (.slice so_ gx.length ca_) gx.length (gapC gx) :: .row 96 2 (.slice lg gl.length lc) gl.length (gapC gl) :: .row 79 2 (.slice zo zs.length zc) zs.length (obC zs) :: T)) _ ⟨0, 0, [], none, 0, rfl, ⟨Nat.zero_le _, rfl, rfl⟩, hA.keep _ ⟨rfl, rfl, rfl, rfl, rfl, rfl, rfl, rfl, rfl, trivial⟩, hM⟩ ?_
 clear hM hA
 rintro m_ a w6 ⟨i, bh, gx, so_, ca_, rfl, hinv8, hA, hM⟩ K7 hK7
 obtain ⟨hi0, hbh, hgx⟩ := hinv8
 have hgxl : gx.length ≤ 1000000 := by rw [hgx]; have := lay_len (zs.take i) 0; rw [List.length_take] at this; omega
 refine wp_seq_k (fun K9 hK9 => ?_)
 refine wp_region_lit ?_
 rcases Bool.eq_false_or_eq_true (decide (((i : Nat) : Int) < ((zs.length : Nat) : Int))) with hb10 | hb10
 · have hb10' := of_decide_eq_true hb10
   refine seq_do (v := .bool true) hA rfl rfl rfl (does_bin rfl rfl (fun w => (bin_lss w).trans (by rw [hb10]))) ?_
   intro a hA
   refine seq_end ?_
   refine hK9 _ _ ?_
   refine wp_seq_k (fun K11 hK11 => ?_)
   refine wp_cond_true (hA.ev rfl) ?_
   refine wp_skip ?_
   refine hK11 _ _ ?_
   refine wp_seq_k (fun K12 hK12 => ?_)
   refine wp_block ?_
   refine wp_seq_k (fun K13 hK13 => ?_)
   obtain ⟨gz, hgz⟩ := row_someH (hM.has 4 rfl) (show zs.length ≠ 0 by omega)
   obtain ⟨o, hz⟩ : ∃ o, zs[i]? = some o := ⟨_, List.getElem?_eq_getElem (show i < zs.length by omega)⟩
   have hom := List.mem_of_getElem? hz
   have hop := hpp o hom
   have hol1 := hcl o hom
   refine wp_region_lit ?_
   refine seq_do (v := .pointer (some ⟨gz, i * 2, none⟩)) hA rfl rfl rfl (does_ixO (k := i) Try.underlying90 (by kernel_rfl) rfl rfl rfl hgz (by omega)) ?_
   intro a hA
   refine seq_do hA rfl rfl rfl (m_ldOS (o := i * 2) (cs := [.int .i64 (((o.p : Nat) : Int)), .slice (some ⟨o.g, 0, none⟩) o.ws.length o.c]) hM 4 rfl hgz HbH_isS_79 (obC_at hz) rfl rfl) ?_
   intro a hA
   refine s_new (vs := [.int .i64 0, .slice none 0 0]) (t := 79) hA hM rfl rfl rfl (fun g => .pointer (some ⟨g, 0, none⟩)) (does_alloc (z := .agg #[.int .i64 0, .slice none 0 0]) (by kernel_rfl) rfl) (by decide) ?_
   intro g14 w15 hM a hA
   refine s_store (us := [.int .i64 (((o.p : Nat) : Int)), .slice (some ⟨o.g, 0, none⟩) o.ws.length o.c]) (L' := (.obj g14 (.cells #[.int .i64 (((o.p : Nat) : Int)), .slice (some ⟨o.g, 0, none⟩) o.ws.length o.c] 79) :: .obj h (.cells #[.map (some m), .int .i64 (((last : Nat) : Int)), .int .i64 (((ss : Nat) : Int)), .slice so_ gx.length ca_, .int .i64 (((ls : Nat) : Int)), .slice lg gl.length lc] 73) :: .obj m (mapO (os.map Ob.en) last) :: .row 96 2 (.slice so_ gx.length ca_) gx.length (gapC gx) :: .row 96 2 (.slice lg gl.length lc) gl.length (gapC gl) :: .row 79 2 (.slice zo zs.length zc) zs.length (obC zs) :: T)) hA hM rfl rfl (m_store rfl rfl rfl (by kernel_rfl) hM 0 rfl rfl rfl) 0 rfl rfl rfl ?_
   intro w16 hM
   refine seq_end ?_
   refine hK13 _ _ ?_
   refine wp_seq_k (fun K17 hK17 => ?_)
   refine wp_region_lit ?_
   refine seq_do hA rfl rfl rfl (does_move rfl) ?_
   intro a hA
   refine seq_do hA rfl rfl rfl (does_move rfl) ?_
   intro a hA
   refine seq_do (v := .pointer (some ⟨g14, 0, none⟩)) hA rfl rfl rfl (does_field HbH_fld_79_0 rfl rfl) ?_
   intro a hA
   refine seq_do hA rfl rfl rfl (m_load1 hM HbH_is1_3 rfl 0 rfl rfl) ?_
   intro a hA
   replace hM : Mg w0 w16 (.row 96 2 (.slice lg gl.length lc) gl.length (gapC gl) :: .obj g14 (.cells #[.int .i64 (((o.p : Nat) : Int)), .slice (some ⟨o.g, 0, none⟩) o.ws.length o.c] 79) :: .obj h (.cells #[.map (some m), .int .i64 (((last : Nat) : Int)), .int .i64 (((ss : Nat) : Int)), .slice so_ gx.length ca_, .int .i64 (((ls : Nat) : Int)), .slice lg gl.length lc] 73) :: .obj m (mapO (os.map Ob.en) last) :: .row 96 2 (.slice so_ gx.length ca_) gx.length (gapC gx) :: .row 79 2 (.slice zo zs.length zc) zs.length (obC zs) :: T) := hM.bring 4 rfl rfl
   replace hM : Mg w0 w16 (.row 96 2 (.slice so_ gx.length ca_) gx.length (gapC gx) :: .row 96 2 (.slice lg gl.length lc) gl.length (gapC gl) :: .obj g14 (.cells #[.int .i64 (((o.p : Nat) : Int)), .slice (some ⟨o.g, 0, none⟩) o.ws.length o.c] 79) :: .obj h (.cells #[.map (some m), .int .i64 (((last : Nat) : Int)), .int .i64 (((ss : Nat) : Int)), .slice so_ gx.length ca_, .int .i64 (((ls : Nat) : Int)), .slice lg gl.length lc] 73) :: .obj m (mapO (os.map Ob.en) last) :: .row 79 2 (.slice zo zs.length zc) zs.length (obC zs) :: T) := hM.bring 4 rfl rfl
   replace hM : Mg w0 w16 (.obj m (mapO (os.map Ob.en) last) :: .row 96 2 (.slice so_ gx.length ca_) gx.length (gapC gx) :: .row 96 2 (.slice lg gl.length lc) gl.length (gapC gl) :: .obj g14 (.cells #[.int .i64 (((o.p : Nat) : Int)), .slice (some ⟨o.g, 0, none⟩) o.ws.length o.c] 79) :: .obj h (.cells #[.map (some m), .int .i64 (((last : Nat) : Int)), .int .i64 (((ss : Nat) : Int)), .slice so_ gx.length ca_, .int .i64 (((ls : Nat) : Int)), .slice lg gl.length lc] 73) :: .row 79 2 (.slice zo zs.length zc) zs.length (obC zs) :: T) := hM.bring 4 rfl rfl
   replace hM : Mg w0 w16 (.obj h (.cells #[.map (some m), .int .i64 (((last : Nat) : Int)), .int .i64 (((ss : Nat) : Int)), .slice so_ gx.length ca_, .int .i64 (((ls : Nat) : Int)), .slice lg gl.length lc] 73) :: .obj m (mapO (os.map Ob.en) last) :: .row 96 2 (.slice so_ gx.length ca_) gx.length (gapC gx) :: .row 96 2 (.slice lg gl.length lc) gl.length (gapC gl) :: .obj g14 (.cells #[.int .i64 (((o.p : Nat) : Int)), .slice (some ⟨o.g, 0, none⟩) o.ws.length o.c] 79) :: .row 79 2 (.slice zo zs.length zc) zs.length (obC zs) :: T) := hM.bring 4 rfl rfl
   refine seq_call hA rfl rfl rfl (enters_func rfl rfl (fun w => by kernel_rfl)) (layGapS_any (fr := bh) (to := o.p) (T := (.obj g14 (.cells #[.int .i64 (((o.p : Nat) : Int)), .slice (some ⟨o.g, 0, none⟩) o.ws.length o.c] 79) :: .row 79 2 (.slice zo zs.length zc) zs.length (obC zs) :: T)) (by omega) (by omega) hM) ?_
   rintro _ w21 ⟨so19, ca20, rfl, hM18⟩
   replace hM : Mg w0 w21 (.obj h (.cells #[.map (some m), .int .i64 (((last : Nat) : Int)), .int .i64 (((ss : Nat) : Int)), .slice so19 ((gx ++ gap1 bh o.p).length) ca20, .int .i64 (((ls : Nat) : Int)), .slice lg gl.length lc] 73) :: .obj m (mapO (os.map Ob.en) last) :: .row 96 2 (.slice so19 ((gx ++ gap1 bh o.p).length) ca20) ((gx ++ gap1 bh o.p).length) (gapC (gx ++ gap1 bh o.p)) :: .row 96 2 (.slice lg gl.length lc) gl.length (gapC gl) :: .obj g14 (.cells #[.int .i64 (((o.p : Nat) : Int)), .slice (some ⟨o.g, 0, none⟩) o.ws.length o.c] 79) :: .row 79 2 (.slice zo zs.length zc) zs.length (obC zs) :: T) := hM18
   refine ⟨_, rfl, ?_⟩
   intro a hA
   refine seq_end ?_
   refine hK17 _ _ ?_
   refine wp_region_lit ?_
   refine seq_do (v := .pointer (some ⟨g14, 0, none⟩)) hA rfl rfl rfl (does_field HbH_fld_79_0 rfl rfl) ?_
   intro a hA
   refine seq_do hA rfl rfl rfl (m_load1 hM HbH_is1_3 rfl 4 rfl rfl) ?_
   intro a hA
   refine seq_do (v := .pointer (some ⟨g14, 1, none⟩)) hA rfl rfl rfl (does_field HbH_fld_79_1 rfl rfl) ?_
   intro a hA
   refine seq_do hA rfl rfl rfl (m_load1 hM HbH_is1_59 rfl 4 rfl rfl) ?_
   intro a hA
   refine seq_do (v := .int .i64 (((o.ws.length : Nat) : Int))) hA rfl rfl rfl (does_len Try.underlying59 rfl) ?_
   intro a hA
   refine seq_do (v := .int .i64 (((o.p + o.ws.length : Nat) : Int))) hA rfl rfl rfl (does_bin rfl rfl (ar_add ((in_i64 (by omega) (by omega)).trans (by omega)))) ?_
   intro a hA
   refine seq_do hA rfl rfl rfl (does_assign rfl) ?_
   intro a hA
   refine seq_end ?_
   refine hK12 _ _ ?_
   refine wp_region_lit ?_
   refine seq_do (v := .int .i64 (((i + 1 : Nat) : Int))) hA rfl rfl rfl (does_bin rfl rfl (ar_add ((in_i64 (by omega) (by omega)).trans (by omega)))) ?_
   intro a hA
   refine seq_do hA rfl rfl rfl (does_move rfl) ?_
   intro a hA
   refine seq_end ?_
   replace hM : Mg w0 w21 (.row 79 2 (.slice zo zs.length zc) zs.length (obC zs) :: .obj h (.cells #[.map (some m), .int .i64 (((last : Nat) : Int)), .int .i64 (((ss : Nat) : Int)), .slice so19 ((gx ++ gap1 bh o.p).length) ca20, .int .i64 (((ls : Nat) : Int)), .slice lg gl.length lc] 73) :: .obj m (mapO (os.map Ob.en) last) :: .row 96 2 (.slice so19 ((gx ++ gap1 bh o.p).length) ca20) ((gx ++ gap1 bh o.p).length) (gapC (gx ++ gap1 bh o.p)) :: .row 96 2 (.slice lg gl.length lc) gl.length (gapC gl) :: .obj g14 (.cells #[.int .i64 (((o.p : Nat) : Int)), .slice (some ⟨o.g, 0, none⟩) o.ws.length o.c] 79) :: T) := hM.bring 5 rfl rfl
   replace hM : Mg w0 w21 (.row 96 2 (.slice lg gl.length lc) gl.length (gapC gl) :: .row 79 2 (.slice zo zs.length zc) zs.length (obC zs) :: .obj h (.cells #[.map (some m), .int .i64 (((last : Nat) : Int)), .int .i64 (((ss : Nat) : Int)), .slice so19 ((gx ++ gap1 bh o.p).length) ca20, .int .i64 (((ls : Nat) : Int)), .slice lg gl.length lc] 73) :: .obj m (mapO (os.map Ob.en) last) :: .row 96 2 (.slice so19 ((gx ++ gap1 bh o.p).length) ca20) ((gx ++ gap1 bh o.p).length) (gapC (gx ++ gap1 bh o.p)) :: .obj g14 (.cells #[.int .i64 (((o.p : Nat) : Int)), .slice (some ⟨o.g, 0, none⟩) o.ws.length o.c] 79) :: T) := hM.bring 4 rfl rfl
   replace hM : Mg w0 w21 (.row 96 2 (.slice so19 ((gx ++ gap1 bh o.p).length) ca20) ((gx ++ gap1 bh o.p).length) (gapC (gx ++ gap1 bh o.p)) :: .row 96 2 (.slice lg gl.length lc) gl.length (gapC gl) :: .row 79 2 (.slice zo zs.length zc) zs.length (obC zs) :: .obj h (.cells #[.map (some m), .int .i64 (((last : Nat) : Int)), .int .i64 (((ss : Nat) : Int)), .slice so19 ((gx ++ gap1 bh o.p).length) ca20, .int .i64 (((ls : Nat) : Int)), .slice lg gl.length lc] 73) :: .obj m (mapO (os.map Ob.en) last) :: .obj g14 (.cells #[.int .i64 (((o.p : Nat) : Int)), .slice (some ⟨o.g, 0, none⟩) o.ws.length o.c] 79) :: T) := hM.bring 4 rfl rfl
   replace hM : Mg w0 w21 (.obj m (mapO (os.map Ob.en) last) :: .row 96 2 (.slice so19 ((gx ++ gap1 bh o.p).length) ca20) ((gx ++ gap1 bh o.p).length) (gapC (gx ++ gap1 bh o.p)) :: .row 96 2 (.slice lg gl.length lc) gl.length (gapC gl) :: .row 79 2 (.slice zo zs.length zc) zs.length (obC zs) :: .obj h (.cells #[.map (some m), .int .i64 (((last : Nat) : Int)), .int .i64 (((ss : Nat) : Int)), .slice so19 ((gx ++ gap1 bh o.p).length) ca20, .int .i64 (((ls : Nat) : Int)), .slice lg gl.length lc] 73) :: .obj g14 (.cells #[.int .i64 (((o.p : Nat) : Int)), .slice (some ⟨o.g, 0, none⟩) o.ws.length o.c] 79) :: T) := hM.bring 4 rfl rfl
   replace hM : Mg w0 w21 (.obj h (.cells #[.map (some m), .int .i64 (((last : Nat) : Int)), .int .i64 (((ss : Nat) : Int)), .slice so19 ((gx ++ gap1 bh o.p).length) ca20, .int .i64 (((ls : Nat) : Int)), .slice lg gl.length lc] 73) :: .obj m (mapO (os.map Ob.en) last) :: .row 96 2 (.slice so19 ((gx ++ gap1 bh o.p).length) ca20) ((gx ++ gap1 bh o.p).length) (gapC (gx ++ gap1 bh o.p)) :: .row 96 2 (.slice lg gl.length lc) gl.length (gapC gl) :: .row 79 2 (.slice zo zs.length zc) zs.length (obC zs) :: .obj g14 (.cells #[.int .i64 (((o.p : Nat) : Int)), .slice (some ⟨o.g, 0, none⟩) o.ws.length o.c] 79) :: T) := hM.bring 4 rfl rfl
   replace hM : Mg w0 w21 (.obj h (.cells #[.map (some m), .int .i64 (((last : Nat) : Int)), .int .i64 (((ss : Nat) : Int)), .slice so19 ((gx ++ gap1 bh o.p).length) ca20, .int .i64 (((ls : Nat) : Int)), .slice lg gl.length lc] 73) :: .obj m (mapO (os.map Ob.en) last) :: .row 96 2 (.slice so19 ((gx ++ gap1 bh o.p).length) ca20) ((gx ++ gap1 bh o.p).length) (gapC (gx ++ gap1 bh o.p)) :: .row 96 2 (.slice lg gl.length lc) gl.length (gapC gl) :: .row 79 2 (.slice zo zs.length zc) zs.length (obC zs) :: T) := by
     have h9 := hM.sub (.cons_cons _ (.cons_cons _ (.cons_cons _ (.cons_cons _ (.cons_cons _ (.cons _ (.refl _)))))))
     exact h9
   refine hK7 _ _ _ (by omega) ⟨i + 1, o.p + o.ws.length, (gx ++ gap1 bh o.p), so19, ca20, rfl, ⟨by omega, (layB_take hz).symm, by rw [layG_take hz, ← hbh, ← hgx]⟩, hA.keep _ ⟨rfl, rfl, rfl, rfl, rfl, rfl, rfl, rfl, rfl, trivial⟩, hM⟩
 · have hb10' := of_decide_eq_false hb10
   refine seq_do (v := .bool false) hA rfl rfl rfl (does_bin rfl rfl (fun w => (bin_lss w).trans (by rw [hb10]))) ?_
   intro a hA
   refine seq_end ?_
   refine hK9 _ _ ?_
   refine wp_seq_k (fun K22 hK22 => ?_)
   refine wp_cond_false (hA.ev rfl) ?_
   refine wp_exit ?_
   refine hK4 _ _ ?_
   refine wp_region_lit ?_
   refine seq_do hA rfl rfl rfl (does_move rfl) ?_
   intro a hA
   refine seq_do hA rfl rfl rfl (does_move rfl) ?_
   intro a hA
   refine seq_do hA rfl rfl rfl (does_move rfl) ?_
   intro a hA
   refine seq_do hA rfl rfl rfl (does_nilq rfl) ?_
   intro a hA
   refine seq_do (v := .pointer (some ⟨h, 2, none⟩)) hA rfl rfl rfl (does_field HbH_fld_70_0 rfl rfl) ?_
   intro a hA
   refine seq_do hA rfl rfl rfl (m_load1 hM HbH_is1_3 rfl 0 rfl rfl) ?_
   intro a hA
   replace hM : Mg w0 w6 (.row 96 2 (.slice lg gl.length lc) gl.length (gapC gl) :: .obj h (.cells #[.map (some m), .int .i64 (((last : Nat) : Int)), .int .i64 (((ss : Nat) : Int)), .slice so_ gx.length ca_, .int .i64 (((ls : Nat) : Int)), .slice lg gl.length lc] 73) :: .obj m (mapO (os.map Ob.en) last) :: .row 96 2 (.slice so_ gx.length ca_) gx.length (gapC gx) :: .row 79 2 (.slice zo zs.length zc) zs.length (obC zs) :: T) := hM.bring 3 rfl rfl
   replace hM : Mg w0 w6 (.row 96 2 (.slice so_ gx.length ca_) gx.length (gapC gx) :: .row 96 2 (.slice lg gl.length lc) gl.length (gapC gl) :: .obj h (.cells #[.map (some m), .int .i64 (((last : Nat) : Int)), .int .i64 (((ss : Nat) : Int)), .slice so_ gx.length ca_, .int .i64 (((ls : Nat) : Int)), .slice lg gl.length lc] 73) :: .obj m (mapO (os.map Ob.en) last) :: .row 79 2 (.slice zo zs.length zc) zs.length (obC zs) :: T) := hM.bring 3 rfl rfl
   replace hM : Mg w0 w6 (.obj m (mapO (os.map Ob.en) last) :: .row 96 2 (.slice so_ gx.length ca_) gx.length (gapC gx) :: .row 96 2 (.slice lg gl.length lc) gl.length (gapC gl) :: .obj h (.cells #[.map (some m), .int .i64 (((last : Nat) : Int)), .int .i64 (((ss : Nat) : Int)), .slice so_ gx.length ca_, .int .i64 (((ls : Nat) : Int)), .slice lg gl.length lc] 73) :: .row 79 2 (.slice zo zs.length zc) zs.length (obC zs) :: T) := hM.bring 3 rfl rfl
   replace hM : Mg w0 w6 (.obj h (.cells #[.map (some m), .int .i64 (((last : Nat) : Int)), .int .i64 (((ss : Nat) : Int)), .slice so_ gx.length ca_, .int .i64 (((ls : Nat) : Int)), .slice lg gl.length lc] 73) :: .obj m (mapO (os.map Ob.en) last) :: .row 96 2 (.slice so_ gx.length ca_) gx.length (gapC gx) :: .row 96 2 (.slice lg gl.length lc) gl.length (gapC gl) :: .row 79 2 (.slice zo zs.length zc) zs.length (obC zs) :: T) := hM.bring 3 rfl rfl
   refine seq_call hA rfl rfl rfl (enters_func rfl rfl (fun w => by kernel_rfl)) (layGapS_any (fr := bh) (to := ss) (T := (.row 79 2 (.slice zo zs.length zc) zs.length (obC zs) :: T)) (by omega) (by omega) hM) ?_
   rintro _ w26 ⟨so24, ca25, rfl, hM23⟩
   replace hM : Mg w0 w26 (.obj h (.cells #[.map (some m), .int .i64 (((last : Nat) : Int)), .int .i64 (((ss : Nat) : Int)), .slice so24 ((gx ++ gap1 bh ss).length) ca25, .int .i64 (((ls : Nat) : Int)), .slice lg gl.length lc] 73) :: .obj m (mapO (os.map Ob.en) last) :: .row 96 2 (.slice so24 ((gx ++ gap1 bh ss).length) ca25) ((gx ++ gap1 bh ss).length) (gapC (gx ++ gap1 bh ss)) :: .row 96 2 (.slice lg gl.length lc) gl.length (gapC gl) :: .row 79 2 (.slice zo zs.length zc) zs.length (obC zs) :: T) := hM23
   refine ⟨_, rfl, ?_⟩
   intro a hA
   refine seq_end ?_
   refine hnorm _ _ ?_
   refine ends (v := .tuple #[]) hA rfl .nil rfl ?_
   replace hM : Mg w0 w26 (.row 96 2 (.slice lg gl.length lc) gl.length (gapC gl) :: .obj h (.cells #[.map (some m), .int .i64 (((last : Nat) : Int)), .int .i64 (((ss : Nat) : Int)), .slice so24 ((gx ++ gap1 bh ss).length) ca25, .int .i64 (((ls : Nat) : Int)), .slice lg gl.length lc] 73) :: .obj m (mapO (os.map Ob.en) last) :: .row 96 2 (.slice so24 ((gx ++ gap1 bh ss).length) ca25) ((gx ++ gap1 bh ss).length) (gapC (gx ++ gap1 bh ss)) :: .row 79 2 (.slice zo zs.length zc) zs.length (obC zs) :: T) := hM.bring 3 rfl rfl
   replace hM : Mg w0 w26 (.row 96 2 (.slice so24 ((gx ++ gap1 bh ss).length) ca25) ((gx ++ gap1 bh ss).length) (gapC (gx ++ gap1 bh ss)) :: .row 96 2 (.slice lg gl.length lc) gl.length (gapC gl) :: .obj h (.cells #[.map (some m), .int .i64 (((last : Nat) : Int)), .int .i64 (((ss : Nat) : Int)), .slice so24 ((gx ++ gap1 bh ss).length) ca25, .int .i64 (((ls : Nat) : Int)), .slice lg gl.length lc] 73) :: .obj m (mapO (os.map Ob.en) last) :: .row 79 2 (.slice zo zs.length zc) zs.length (obC zs) :: T) := hM.bring 3 rfl rfl
   replace hM : Mg w0 w26 (.obj m (mapO (os.map Ob.en) last) :: .row 96 2 (.slice so24 ((gx ++ gap1 bh ss).length) ca25) ((gx ++ gap1 bh ss).length) (gapC (gx ++ gap1 bh ss)) :: .row 96 2 (.slice lg gl.length lc) gl.length (gapC gl) :: .obj h (.cells #[.map (some m), .int .i64 (((last : Nat) : Int)), .int .i64 (((ss : Nat) : Int)), .slice so24 ((gx ++ gap1 bh ss).length) ca25, .int .i64 (((ls : Nat) : Int)), .slice lg gl.length lc] 73) :: .row 79 2 (.slice zo zs.length zc) zs.length (obC zs) :: T) := hM.bring 3 rfl rfl
   replace hM : Mg w0 w26 (.obj h (.cells #[.map (some m), .int .i64 (((last : Nat) : Int)), .int .i64 (((ss : Nat) : Int)), .slice so24 ((gx ++ gap1 bh ss).length) ca25, .int .i64 (((ls : Nat) : Int)), .slice lg gl.length lc] 73) :: .obj m (mapO (os.map Ob.en) last) :: .row 96 2 (.slice so24 ((gx ++ gap1 bh ss).length) ca25) ((gx ++ gap1 bh ss).length) (gapC (gx ++ gap1 bh ss)) :: .row 96 2 (.slice lg gl.length lc) gl.length (gapC gl) :: .row 79 2 (.slice zo zs.length zc) zs.length (obC zs) :: T) := hM.bring 3 rfl rfl
   replace hM : Mg w0 w26 (.obj h (.cells #[.map (some m), .int .i64 (((last : Nat) : Int)), .int .i64 (((ss : Nat) : Int)), .slice so24 ((gx ++ gap1 bh ss).length) ca25, .int .i64 (((ls : Nat) : Int)), .slice lg gl.length lc] 73) :: .obj m (mapO (os.map Ob.en) last) :: .row 96 2 (.slice so24 ((gx ++ gap1 bh ss).length) ca25) ((gx ++ gap1 bh ss).length) (gapC (gx ++ gap1 bh ss)) :: .row 96 2 (.slice lg gl.length lc) gl.length (gapC gl) :: T) := by
     have h9 := hM.sub (.cons_cons _ (.cons_cons _ (.cons_cons _ (.cons_cons _ (.cons _ (.refl _))))))
     exact h9
   have e8 : zs.take i = zs := List.take_of_length_le (by omega)
   rw [e8] at hbh hgx
   have e9 : gx ++ gap1 bh ss = freeG ss zs := by rw [hgx, hbh]; rfl
   rw [e9] at hM
   exact ⟨_, _, rfl, hM⟩
theorem layGapsL_any {w0 w : World} {h m last ss ls sc lc : Nat} {sg lg : Option Addr} {gs gl : List (Nat × Nat)} {os : List Ob} {T : List Ck} {zs : List Ob} {zo : Option Addr} {zc : Nat} (hzl : zs.length ≤ 1000000) (hsz : ls ≤ 65536) (hcl : ∀ o ∈ zs, o.ws.length ≤ 1000000) (hpp : ∀ o ∈ zs, o.p ≤ 65536) (hnT : noBld T) (hM0 : Mg w0 w (.obj h (.cells #[.map (some m), .int .i64 (((last : Nat) : Int)), .int .i64 (((ss : Nat) : Int)), .slice sg gs.length sc, .int .i64 (((ls : Nat) : Int)), .slice lg gl.length lc] 73) :: .obj m (mapO (os.map Ob.en) last) :: .row 96 2 (.slice sg gs.length sc) gs.length (gapC gs) :: .row 96 2 (.slice lg gl.length lc) gl.length (gapC gl) :: .row 79 2 (.slice zo zs.length zc) zs.length (obC zs) :: T)) : Calls Try.prog 38 #[.pointer (some ⟨h, 4, none⟩), .slice zo zs.length zc] w fun e w' => ∃ so' ca', e = .returned (.tuple #[]) ∧ Mg w0 w' (.obj h (.cells #[.map (some m), .int .i64 (((last : Nat) : Int)), .int .i64 (((ss : Nat) : Int)), .slice sg gs.length sc, .int .i64 (((ls : Nat) : Int)), .slice so' ((freeG ls zs).length) ca'] 73) :: .obj m (mapO (os.map Ob.en) last) :: .row 96 2 (.slice sg gs.length sc) gs.length (gapC gs) :: .row 96 2 (.slice so' ((freeG ls zs).length) ca') ((freeG ls zs).length) (gapC (freeG ls zs)) :: T) := by
 have hM : Mg w0 w (.obj h (.cells #[.map (some m), .int .i64 (((last : Nat) : Int)), .int .i64 (((ss : Nat) : Int)), .slice sg gs.length sc, .int .i64 (((ls : Nat) : Int)), .slice lg gl.length lc] 73) :: .obj m (mapO (os.map Ob.en) last) :: .row 96 2 (.slice sg gs.length sc) gs.length (gapC gs) :: .row 96 2 (.slice lg gl.length lc) gl.length (gapC gl) :: .row 79 2 (.slice zo zs.length zc) zs.length (obC zs) :: T) := hM0
 refine walk_of (l := [(0, .pointer (some ⟨h, 4, none⟩)), (1, .slice zo zs.length zc)]) Try.func38 rfl Try.ntmps38 rfl rfl ?_
 intro Q hret hnorm hP a hA
 refine wp_seq_k (fun K1 hK1 => ?_)
 refine wp_region_lit ?_
 refine seq_do hA rfl rfl rfl (does_move rfl) ?_
 intro a hA
 refine seq_do hA rfl rfl rfl (does_nilq rfl) ?_
 intro a hA
 refine seq_do (v := .pointer (some ⟨h, 5, none⟩)) hA rfl rfl rfl (does_field HbH_fld_70_1 rfl rfl) ?_
 intro a hA
 refine s_store (us := [.map (some m), .int .i64 (((last : Nat) : Int)), .int .i64 (((ss : Nat) : Int)), .slice sg gs.length sc, .int .i64 (((ls : Nat) : Int)), .slice none 0 0]) (L' := (.obj h (.cells #[.map (some m), .int .i64 (((last : Nat) : Int)), .int .i64 (((ss : Nat) : Int)), .slice sg gs.length sc, .int .i64 (((ls : Nat) : Int)), .slice none 0 0] 73) :: .obj m (mapO (os.map Ob.en) last) :: .row 96 2 (.slice sg gs.length sc) gs.length (gapC gs) :: .row 96 2 (.slice lg gl.length lc) gl.length (gapC gl) :: .row 79 2 (.slice zo zs.length zc) zs.length (obC zs) :: T)) hA hM rfl rfl (m_store rfl rfl rfl (by kernel_rfl) hM 0 rfl rfl rfl) 0 rfl rfl rfl ?_
 intro w2 hM
 refine seq_end ?_
 refine hK1 _ _ ?_
 refine wp_seq_k (fun K3 hK3 => ?_)
 refine wp_region_lit ?_
 refine seq_do hA rfl rfl rfl (does_assign rfl) ?_
 intro a hA
 refine seq_end ?_
 refine hK3 _ _ ?_
 refine wp_seq_k (fun K4 hK4 => ?_)
 refine wp_seq_k (fun K5 hK5 => ?_)
 refine wp_region_lit ?_
 refine seq_do hA rfl rfl rfl (does_move rfl) ?_
 intro a hA
 refine seq_do (v := .int .i64 (((zs.length : Nat) : Int))) hA rfl rfl rfl (does_len Try.underlying90 rfl) ?_
 intro a hA
 refine seq_do hA rfl rfl rfl (does_move rfl) ?_
 intro a hA
 refine seq_end ?_
 refine hK5 _ _ ?_
 refine wp_block ?_
 replace hM := hM.nilRowH (noBld_cons (by simp) (noBld_cons (by simp) (noBld_cons (by simp) (noBld_cons (by simp) (noBld_cons (by simp) hnT))))) 96 2
 replace hM : Mg w0 w2 (.row 79 2 (.slice zo zs.length zc) zs.length (obC zs) :: .row 96 2 (.slice none 0 0) 0 (gapC []) :: .obj h (.cells #[.map (some m), .int .i64 (((last : Nat) : Int)), .int .i64 (((ss : Nat) : Int)), .slice sg gs.length sc, .int .i64 (((ls : Nat) : Int)), .slice none 0 0] 73) :: .obj m (mapO (os.map Ob.en) last) :: .row 96 2 (.slice sg gs.length sc) gs.length (gapC gs) :: .row 96 2 (.slice lg gl.length lc) gl.length (gapC gl) :: T) := hM.bring 5 rfl rfl
 replace hM : Mg w0 w2 (.row 96 2 (.slice none 0 0) 0 (gapC []) :: .row 79 2 (.slice zo zs.length zc) zs.length (obC zs) :: .obj h (.cells #[.map (some m), .int .i64 (((last : Nat) : Int)), .int .i64 (((ss : Nat) : Int)), .slice sg gs.length sc, .int .i64 (((ls : Nat) : Int)), .slice none 0 0] 73) :: .obj m (mapO (os.map Ob.en) last) :: .row 96 2 (.slice sg gs.length sc) gs.length (gapC gs) :: .row 96 2 (.slice lg gl.length lc) gl.length (gapC gl) :: T) := hM.bring 1 rfl rfl
 replace hM : Mg w0 w2 (.row 96 2 (.slice sg gs.length sc) gs.length (gapC gs) :: .row 96 2 (.slice none 0 0) 0 (gapC []) :: .row 79 2 (.slice zo zs.length zc) zs.length (obC zs) :: .obj h (.cells #[.map (some m), .int .i64 (((last : Nat) : Int)), .int .i64 (((ss : Nat) : Int)), .slice sg gs.length sc, .int .i64 (((ls : Nat) : Int)), .slice none 0 0] 73) :: .obj m (mapO (os.map Ob.en) last) :: .row 96 2 (.slice lg gl.length lc) gl.length (gapC gl) :: T) := hM.bring 4 rfl rfl
 replace hM : Mg w0 w2 (.obj m (mapO (os.map Ob.en) last) :: .row 96 2 (.slice sg gs.length sc) gs.length (gapC gs) :: .row 96 2 (.slice none 0 0) 0 (gapC []) :: .row 79 2 (.slice zo zs.length zc) zs.length (obC zs) :: .obj h (.cells #[.map (some m), .int .i64 (((last : Nat) : Int)), .int .i64 (((ss : Nat) : Int)), .slice sg gs.length sc, .int .i64 (((ls : Nat) : Int)), .slice none 0 0] 73) :: .row 96 2 (.slice lg gl.length lc) gl.length (gapC gl) :: T) := hM.bring 4 rfl rfl
 replace hM : Mg w0 w2 (.obj h (.cells #[.map (some m), .int .i64 (((last : Nat) : Int)), .int .i64 (((ss : Nat) : Int)), .slice sg gs.length sc, .int .i64 (((ls : Nat) : Int)), .slice none 0 0] 73) :: .obj m (mapO (os.map Ob.en) last) :: .row 96 2 (.slice sg gs.length sc) gs.length (gapC gs) :: .row 96 2 (.slice none 0 0) 0 (gapC []) :: .row 79 2 (.slice zo zs.length zc) zs.length (obC zs) :: .row 96 2 (.slice lg gl.length lc) gl.length (gapC gl) :: T) := hM.bring 4 rfl rfl
 replace hM : Mg w0 w2 (.obj h (.cells #[.map (some m), .int .i64 (((last : Nat) : Int)), .int .i64 (((ss : Nat) : Int)), .slice sg gs.length sc, .int .i64 (((ls : Nat) : Int)), .slice none 0 0] 73) :: .obj m (mapO (os.map Ob.en) last) :: .row 96 2 (.slice sg gs.length sc) gs.length (gapC gs) :: .row 96 2 (.slice none 0 0) 0 (gapC []) :: .row 79 2 (.slice zo zs.length zc) zs.length (obC zs) :: T) := by
   have h9 := hM.sub (.cons_cons _ (.cons_cons _ (.cons_cons _ (.cons_cons _ (.cons_cons _ (.cons _ (.refl _)))))))
   exact h9
 refine wp_loop_n (fun m_ a w1 => ∃ (i : Nat) (bh : Nat) (gx : List (Nat × Nat)) (so_ : Option Addr) (ca_ : Nat), m_ = 1 + (zs.length - i) ∧ (i ≤ zs.length ∧ bh = layB 0 (zs.take i) ∧ gx = layG 0 (zs.take i)) ∧ Sl a 35 [(0, .pointer (some ⟨h, 4, none⟩)), (1, .slice zo zs.length zc), (4, .int .i64 (((bh : Nat) : Int))), (7, .pointer (some ⟨h, 4, none⟩)), (8, .pointer (some ⟨h, 4, none⟩)), (9, .pointer (some ⟨h, 5, none⟩)), (10, .slice zo zs.length zc), (11, .int .i64 (((zs.length : Nat) : Int))), (12, .int .i64 (((i : Nat) : Int)))] ∧ Mg w0 w1 (.obj h (.cells #[.map (some m), .int .i64 (((last : Nat) : Int)), .int .i64 (((ss : Nat) : Int)), .slice sg gs.length sc, .int .i64 (((ls : Nat) : Int)), .slice so_ gx.length ca_] 73) :: .obj m (mapO (os.map Ob.en) last) :: .row 96 2 (.slice sg gs.length sc) gs.length (gapC gs) :: .row 96 2 (.slice so_ gx.length ca_) gx.length (gapC gx) :: .row 79 2 (.slice zo zs.length zc) zs.length (obC zs) :: T)) _ ⟨0, 0, [], none, 0, rfl, ⟨Nat.zero_le _, rfl, rfl⟩, hA.keep _ ⟨rfl, rfl, rfl, rfl, rfl, rfl, rfl, rfl, rfl, trivial⟩, hM⟩ ?_
 clear hM hA
 rintro m_ a w6 ⟨i, bh, gx, so_, ca_, rfl, hinv8, hA, hM⟩ K7 hK7
 obtain ⟨hi0, hbh, hgx⟩ := hinv8
 have hgxl : gx.length ≤ 1000000 := by rw [hgx]; have := lay_len (zs.take i) 0; rw [List.length_take] at this; omega
 refine wp_seq_k (fun K9 hK9 => ?_)
 refine wp_region_lit ?_
 rcases Bool.eq_false_or_eq_true (decide (((i : Nat) : Int) < ((zs.length : Nat) : Int))) with hb10 | hb10
 · have hb10' := of_decide_eq_true hb10
   refine seq_do (v := .bool true) hA rfl rfl rfl (does_bin rfl rfl (fun w => (bin_lss w).trans (by rw [hb10]))) ?_
   intro a hA
   refine seq_end ?_
   refine hK9 _ _ ?_
   refine wp_seq_k (fun K11 hK11 => ?_)
   refine wp_cond_true (hA.ev rfl) ?_
   refine wp_skip ?_
   refine hK11 _ _ ?_
   refine wp_seq_k (fun K12 hK12 => ?_)
   refine wp_block ?_
   refine wp_seq_k (fun K13 hK13 => ?_)
   obtain ⟨gz, hgz⟩ := row_someH (hM.has 4 rfl) (show zs.length ≠ 0 by omega)
   obtain ⟨o, hz⟩ : ∃ o, zs[i]? = some o := ⟨_, List.getElem?_eq_getElem (show i < zs.length by omega)⟩
   have hom := List.mem_of_getElem? hz
   have hop := hpp o hom
   have hol1 := hcl o hom
   refine wp_region_lit ?_
   refine seq_do (v := .pointer (some ⟨gz, i * 2, none⟩)) hA rfl rfl rfl (does_ixO (k := i) Try.underlying90 (by kernel_rfl) rfl rfl rfl hgz (by omega)) ?_
   intro a hA
   refine seq_do hA rfl rfl rfl (m_ldOS (o := i * 2) (cs := [.int .i64 (((o.p : Nat) : Int)), .slice (some ⟨o.g, 0, none⟩) o.ws.length o.c]) hM 4 rfl hgz HbH_isS_79 (obC_at hz) rfl rfl) ?_
   intro a hA
   refine s_new (vs := [.int .i64 0, .slice none 0 0]) (t := 79) hA hM rfl rfl rfl (fun g => .pointer (some ⟨g, 0, none⟩)) (does_alloc (z := .agg #[.int .i64 0, .slice none 0 0]) (by kernel_rfl) rfl) (by decide) ?_
   intro g14 w15 hM a hA
   refine s_store (us := [.int .i64 (((o.p : Nat) : Int)), .slice (some ⟨o.g, 0, none⟩) o.ws.length o.c]) (L' := (.obj g14 (.cells #[.int .i64 (((o.p : Nat) : Int)), .slice (some ⟨o.g, 0, none⟩) o.ws.length o.c] 79) :: .obj h (.cells #[.map (some m), .int .i64 (((last : Nat) : Int)), .int .i64 (((ss : Nat) : Int)), .slice sg gs.length sc, .int .i64 (((ls : Nat) : Int)), .slice so_ gx.length ca_] 73) :: .obj m (mapO (os.map Ob.en) last) :: .row 96 2 (.slice sg gs.length sc) gs.length (gapC gs) :: .row 96 2 (.slice so_ gx.length ca_) gx.length (gapC gx) :: .row 79 2 (.slice zo zs.length zc) zs.length (obC zs) :: T)) hA hM rfl rfl (m_store rfl rfl rfl (by kernel_rfl) hM 0 rfl rfl rfl) 0 rfl rfl rfl ?_
   intro w16 hM
   refine seq_end ?_
   refine hK13 _ _ ?_
   refine wp_seq_k (fun K17 hK17 => ?_)
   refine wp_region_lit ?_
   refine seq_do hA rfl rfl rfl (does_move rfl) ?_
   intro a hA
   refine seq_do hA rfl rfl rfl (does_move rfl) ?_
   intro a hA
   refine seq_do (v := .pointer (some ⟨g14, 0, none⟩)) hA rfl rfl rfl (does_field HbH_fld_79_0 rfl rfl) ?_
   intro a hA
   refine seq_do hA rfl rfl rfl (m_load1 hM HbH_is1_3 rfl 0 rfl rfl) ?_
   intro a hA
   replace hM : Mg w0 w16 (.row 96 2 (.slice so_ gx.length ca_) gx.length (gapC gx) :: .obj g14 (.cells #[.int .i64 (((o.p : Nat) : Int)), .slice (some ⟨o.g, 0, none⟩) o.ws.length o.c] 79) :: .obj h (.cells #[.map (some m), .int .i64 (((last : Nat) : Int)), .int .i64 (((ss : Nat) : Int)), .slice sg gs.length sc, .int .i64 (((ls : Nat) : Int)), .slice so_ gx.length ca_] 73) :: .obj m (mapO (os.map Ob.en) last) :: .row 96 2 (.slice sg gs.length sc) gs.length (gapC gs) :: .row 79 2 (.slice zo zs.length zc) zs.length (obC zs) :: T) := hM.bring 4 rfl rfl
   replace hM : Mg w0 w16 (.row 96 2 (.slice sg gs.length sc) gs.length (gapC gs) :: .row 96 2 (.slice so_ gx.length ca_) gx.length (gapC gx) :: .obj g14 (.cells #[.int .i64 (((o.p : Nat) : Int)), .slice (some ⟨o.g, 0, none⟩) o.ws.length o.c] 79) :: .obj h (.cells #[.map (some m), .int .i64 (((last : Nat) : Int)), .int .i64 (((ss : Nat) : Int)), .slice sg gs.length sc, .int .i64 (((ls : Nat) : Int)), .slice so_ gx.length ca_] 73) :: .obj m (mapO (os.map Ob.en) last) :: .row 79 2 (.slice zo zs.length zc) zs.length (obC zs) :: T) := hM.bring 4 rfl rfl
   replace hM : Mg w0 w16 (.obj m (mapO (os.map Ob.en) last) :: .row 96 2 (.slice sg gs.length sc) gs.length (gapC gs) :: .row 96 2 (.slice so_ gx.length ca_) gx.length (gapC gx) :: .obj g14 (.cells #[.int .i64 (((o.p : Nat) : Int)), .slice (some ⟨o.g, 0, none⟩) o.ws.length o.c] 79) :: .obj h (.cells #[.map (some m), .int .i64 (((last : Nat) : Int)), .int .i64 (((ss : Nat) : Int)), .slice sg gs.length sc, .int .i64 (((ls : Nat) : Int)), .slice so_ gx.length ca_] 73) :: .row 79 2 (.slice zo zs.length zc) zs.length (obC zs) :: T) := hM.bring 4 rfl rfl
   replace hM : Mg w0 w16 (.obj h (.cells #[.map (some m), .int .i64 (((last : Nat) : Int)), .int .i64 (((ss : Nat) : Int)), .slice sg gs.length sc, .int .i64 (((ls : Nat) : Int)), .slice so_ gx.length ca_] 73) :: .obj m (mapO (os.map Ob.en) last) :: .row 96 2 (.slice sg gs.length sc) gs.length (gapC gs) :: .row 96 2 (.slice so_ gx.length ca_) gx.length (gapC gx) :: .obj g14 (.cells #[.int .i64 (((o.p : Nat) : Int)), .slice (some ⟨o.g, 0, none⟩) o.ws.length o.c] 79) :: .row 79 2 (.slice zo zs.length zc) zs.length (obC zs) :: T) := hM.bring 4 rfl rfl
   refine seq_call hA rfl rfl rfl (enters_func rfl rfl (fun w => by kernel_rfl)) (layGapL_any (fr := bh) (to := o.p) (T := (.obj g14 (.cells #[.int .i64 (((o.p : Nat) : Int)), .slice (some ⟨o.g, 0, none⟩) o.ws.length o.c] 79) :: .row 79 2 (.slice zo zs.length zc) zs.length (obC zs) :: T)) (by omega) (by omega) hM) ?_
   rintro _ w21 ⟨so19, ca20, rfl, hM18⟩
   replace hM : Mg w0 w21 (.obj h (.cells #[.map (some m), .int .i64 (((last : Nat) : Int)), .int .i64 (((ss : Nat) : Int)), .slice sg gs.length sc, .int .i64 (((ls : Nat) : Int)), .slice so19 ((gx ++ gap1 bh o.p).length) ca20] 73) :: .obj m (mapO (os.map Ob.en) last) :: .row 96 2 (.slice sg gs.length sc) gs.length (gapC gs) :: .row 96 2 (.slice so19 ((gx ++ gap1 bh o.p).length) ca20) ((gx ++ gap1 bh o.p).length) (gapC (gx ++ gap1 bh o.p)) :: .obj g14 (.cells #[.int .i64 (((o.p : Nat) : Int)), .slice (some ⟨o.g, 0, none⟩) o.ws.length o.c] 79) :: .row 79 2 (.slice zo zs.length zc) zs.length (obC zs) :: T) := hM18
   refine ⟨_, rfl, ?_⟩
   intro a hA
   refine seq_end ?_
   refine hK17 _ _ ?_
   refine wp_region_lit ?_
   refine seq_do (v := .pointer (some ⟨g14, 0, none⟩)) hA rfl rfl rfl (does_field HbH_fld_79_0 rfl rfl) ?_
   intro a hA
   refine seq_do hA rfl rfl rfl (m_load1 hM HbH_is1_3 rfl 4 rfl rfl) ?_
   intro a hA
   refine seq_do (v := .pointer (some ⟨g14, 1, none⟩)) hA rfl rfl rfl (does_field HbH_fld_79_1 rfl rfl) ?_
   intro a hA
   refine seq_do hA rfl rfl rfl (m_load1 hM HbH_is1_59 rfl 4 rfl rfl) ?_
   intro a hA
   refine seq_do (v := .int .i64 (((o.ws.length : Nat) : Int))) hA rfl rfl rfl (does_len Try.underlying59 rfl) ?_
   intro a hA
   refine seq_do (v := .int .i64 (((o.p + o.ws.length : Nat) : Int))) hA rfl rfl rfl (does_bin rfl rfl (ar_add ((in_i64 (by omega) (by omega)).trans (by omega)))) ?_
   intro a hA
   refine seq_do hA rfl rfl rfl (does_assign rfl) ?_
   intro a hA
   refine seq_end ?_
   refine hK12 _ _ ?_
   refine wp_region_lit ?_
   refine seq_do (v := .int .i64 (((i + 1 : Nat) : Int))) hA rfl rfl rfl (does_bin rfl rfl (ar_add ((in_i64 (by omega) (by omega)).trans (by omega)))) ?_
   intro a hA
   refine seq_do hA rfl rfl rfl (does_move rfl) ?_
   intro a hA
   refine seq_end ?_
   replace hM : Mg w0 w21 (.row 79 2 (.slice zo zs.length zc) zs.length (obC zs) :: .obj h (.cells #[.map (some m), .int .i64 (((last : Nat) : Int)), .int .i64 (((ss : Nat) : Int)), .slice sg gs.length sc, .int .i64 (((ls : Nat) : Int)), .slice so19 ((gx ++ gap1 bh o.p).length) ca20] 73) :: .obj m (mapO (os.map Ob.en) last) :: .row 96 2 (.slice sg gs.length sc) gs.length (gapC gs) :: .row 96 2 (.slice so19 ((gx ++ gap1 bh o.p).length) ca20) ((gx ++ gap1 bh o.p).length) (gapC (gx ++ gap1 bh o.p)) :: .obj g14 (.cells #[.int .i64 (((o.p : Nat) : Int)), .slice (some ⟨o.g, 0, none⟩) o.ws.length o.c] 79) :: T) := hM.bring 5 rfl rfl
   replace hM : Mg w0 w21 (.row 96 2 (.slice so19 ((gx ++ gap1 bh o.p).length) ca20) ((gx ++ gap1 bh o.p).length) (gapC (gx ++ gap1 bh o.p)) :: .row 79 2 (.slice zo zs.length zc) zs.length (obC zs) :: .obj h (.cells #[.map (some m), .int .i64 (((last : Nat) : Int)), .int .i64 (((ss : Nat) : Int)), .slice sg gs.length sc, .int .i64 (((ls : Nat) : Int)), .slice so19 ((gx ++ gap1 bh o.p).length) ca20] 73) :: .obj m (mapO (os.map Ob.en) last) :: .row 96 2 (.slice sg gs.length sc) gs.length (gapC gs) :: .obj g14 (.cells #[.int .i64 (((o.p : Nat) : Int)), .slice (some ⟨o.g, 0, none⟩) o.ws.length o.c] 79) :: T) := hM.bring 4 rfl rfl
   replace hM : Mg w0 w21 (.row 96 2 (.slice sg gs.length sc) gs.length (gapC gs) :: .row 96 2 (.slice so19 ((gx ++ gap1 bh o.p).length) ca20) ((gx ++ gap1 bh o.p).length) (gapC (gx ++ gap1 bh o.p)) :: .row 79 2 (.slice zo zs.length zc) zs.length (obC zs) :: .obj h (.cells #[.map (some m), .int .i64 (((last : Nat) : Int)), .int .i64 (((ss : Nat) : Int)), .slice sg gs.length sc, .int .i64 (((ls : Nat) : Int)), .slice so19 ((gx ++ gap1 bh o.p).length) ca20] 73) :: .obj m (mapO (os.map Ob.en) last) :: .obj g14 (.cells #[.int .i64 (((o.p : Nat) : Int)), .slice (some ⟨o.g, 0, none⟩) o.ws.length o.c] 79) :: T) := hM.bring 4 rfl rfl
   replace hM : Mg w0 w21 (.obj m (mapO (os.map Ob.en) last) :: .row 96 2 (.slice sg gs.length sc) gs.length (gapC gs) :: .row 96 2 (.slice so19 ((gx ++ gap1 bh o.p).length) ca20) ((gx ++ gap1 bh o.p).length) (gapC (gx ++ gap1 bh o.p)) :: .row 79 2 (.slice zo zs.length zc) zs.length (obC zs) :: .obj h (.cells #[.map (some m), .int .i64 (((last : Nat) : Int)), .int .i64 (((ss : Nat) : Int)), .slice sg gs.length sc, .int .i64 (((ls : Nat) : Int)), .slice so19 ((gx ++ gap1 bh o.p).length) ca20] 73) :: .obj g14 (.cells #[.int .i64 (((o.p : Nat) : Int)), .slice (some ⟨o.g, 0, none⟩) o.ws.length o.c] 79) :: T) := hM.bring 4 rfl rfl
   replace hM : Mg w0 w21 (.obj h (.cells #[.map (some m), .int .i64 (((last : Nat) : Int)), .int .i64 (((ss : Nat) : Int)), .slice sg gs.length sc, .int .i64 (((ls : Nat) : Int)), .slice so19 ((gx ++ gap1 bh o.p).length) ca20] 73) :: .obj m (mapO (os.map Ob.en) last) :: .row 96 2 (.slice sg gs.length sc) gs.length (gapC gs) :: .row 96 2 (.slice so19 ((gx ++ gap1 bh o.p).length) ca20) ((gx ++ gap1 bh o.p).length) (gapC (gx ++ gap1 bh o.p)) :: .row 79 2 (.slice zo zs.length zc) zs.length (obC zs) :: .obj g14 (.cells #[.int .i64 (((o.p : Nat) : Int)), .slice (some ⟨o.g, 0, none⟩) o.ws.length o.c] 79) :: T) := hM.bring 4 rfl rfl
   replace hM : Mg w0 w21 (.obj h (.cells #[.map (some m), .int .i64 (((last : Nat) : Int)), .int .i64 (((ss : Nat) : Int)), .slice sg gs.length sc, .int .i64 (((ls : Nat) : Int)), .slice so19 ((gx ++ gap1 bh o.p).length) ca20] 73) :: .obj m (mapO (os.map Ob.en) last) :: .row 96 2 (.slice sg gs.length sc) gs.length (gapC gs) :: .row 96 2 (.slice so19 ((gx ++ gap1 bh o.p).length) ca20) ((gx ++ gap1 bh o.p).length) (gapC (gx ++ gap1 bh o.p)) :: .row 79 2 (.slice zo zs.length zc) zs.length (obC zs) :: T) := by
     have h9 := hM.sub (.cons_cons _ (.cons_cons _ (.cons_cons _ (.cons_cons _ (.cons_cons _ (.cons _ (.refl _)))))))
     exact h9
   refine hK7 _ _ _ (by omega) ⟨i + 1, o.p + o.ws.length, (gx ++ gap1 bh o.p), so19, ca20, rfl, ⟨by omega, (layB_take hz).symm, by rw [layG_take hz, ← hbh, ← hgx]⟩, hA.keep _ ⟨rfl, rfl, rfl, rfl, rfl, rfl, rfl, rfl, rfl, trivial⟩, hM⟩
 · have hb10' := of_decide_eq_false hb10
   refine seq_do (v := .bool false) hA rfl rfl rfl (does_bin rfl rfl (fun w => (bin_lss w).trans (by rw [hb10]))) ?_
   intro a hA
   refine seq_end ?_
   refine hK9 _ _ ?_
   refine wp_seq_k (fun K22 hK22 => ?_)
   refine wp_cond_false (hA.ev rfl) ?_
   refine wp_exit ?_
   refine hK4 _ _ ?_
   refine wp_region_lit ?_
   refine seq_do hA rfl rfl rfl (does_move rfl) ?_
   intro a hA
   refine seq_do hA rfl rfl rfl (does_move rfl) ?_
   intro a hA
   refine seq_do hA rfl rfl rfl (does_move rfl) ?_
   intro a hA
   refine seq_do hA rfl rfl rfl (does_nilq rfl) ?_
   intro a hA
   refine seq_do (v := .pointer (some ⟨h, 4, none⟩)) hA rfl rfl rfl (does_field HbH_fld_70_0 rfl rfl) ?_
   intro a hA
   refine seq_do hA rfl rfl rfl (m_load1 hM HbH_is1_3 rfl 0 rfl rfl) ?_
   intro a hA
   replace hM : Mg w0 w6 (.row 96 2 (.slice so_ gx.length ca_) gx.length (gapC gx) :: .obj h (.cells #[.map (some m), .int .i64 (((last : Nat) : Int)), .int .i64 (((ss : Nat) : Int)), .slice sg gs.length sc, .int .i64 (((ls : Nat) : Int)), .slice so_ gx.length ca_] 73) :: .obj m (mapO (os.map Ob.en) last) :: .row 96 2 (.slice sg gs.length sc) gs.length (gapC gs) :: .row 79 2 (.slice zo zs.length zc) zs.length (obC zs) :: T) := hM.bring 3 rfl rfl
   replace hM : Mg w0 w6 (.row 96 2 (.slice sg gs.length sc) gs.length (gapC gs) :: .row 96 2 (.slice so_ gx.length ca_) gx.length (gapC gx) :: .obj h (.cells #[.map (some m), .int .i64 (((last : Nat) : Int)), .int .i64 (((ss : Nat) : Int)), .slice sg gs.length sc, .int .i64 (((ls : Nat) : Int)), .slice so_ gx.length ca_] 73) :: .obj m (mapO (os.map Ob.en) last) :: .row 79 2 (.slice zo zs.length zc) zs.length (obC zs) :: T) := hM.bring 3 rfl rfl
   replace hM : Mg w0 w6 (.obj m (mapO (os.map Ob.en) last) :: .row 96 2 (.slice sg gs.length sc) gs.length (gapC gs) :: .row 96 2 (.slice so_ gx.length ca_) gx.length (gapC gx) :: .obj h (.cells #[.map (some m), .int .i64 (((last : Nat) : Int)), .int .i64 (((ss : Nat) : Int)), .slice sg gs.length sc, .int .i64 (((ls : Nat) : Int)), .slice so_ gx.length ca_] 73) :: .row 79 2 (.slice zo zs.length zc) zs.length (obC zs) :: T) := hM.bring 3 rfl rfl
   replace hM : Mg w0 w6 (.obj h (.cells #[.map (some m), .int .i64 (((last : Nat) : Int)), .int .i64 (((ss : Nat) : Int)), .slice sg gs.length sc, .int .i64 (((ls : Nat) : Int)), .slice so_ gx.length ca_] 73) :: .obj m (mapO (os.map Ob.en) last) :: .row 96 2 (.slice sg gs.length sc) gs.length (gapC gs) :: .row 96 2 (.slice so_ gx.length ca_) gx.length (gapC gx) :: .row 79 2 (.slice zo zs.length zc) zs.length (obC zs) :: T) := hM.bring 3 rfl rfl
   refine seq_call hA rfl rfl rfl (enters_func rfl rfl (fun w => by kernel_rfl)) (layGapL_any (fr := bh) (to := ls) (T := (.row 79 2 (.slice zo zs.length zc) zs.length (obC zs) :: T)) (by omega) (by omega) hM) ?_
   rintro _ w26 ⟨so24, ca25, rfl, hM23⟩
   replace hM : Mg w0 w26 (.obj h (.cells #[.map (some m), .int .i64 (((last : Nat) : Int)), .int .i64 (((ss : Nat) : Int)), .slice sg gs.length sc, .int .i64 (((ls : Nat) : Int)), .slice so24 ((gx ++ gap1 bh ls).length) ca25] 73) :: .obj m (mapO (os.map Ob.en) last) :: .row 96 2 (.slice sg gs.length sc) gs.length (gapC gs) :: .row 96 2 (.slice so24 ((gx ++ gap1 bh ls).length) ca25) ((gx ++ gap1 bh ls).length) (gapC (gx ++ gap1 bh ls)) :: .row 79 2 (.slice zo zs.length zc) zs.length (obC zs) :: T) := hM23
   refine ⟨_, rfl, ?_⟩
   intro a hA
   refine seq_end ?_
   refine hnorm _ _ ?_
   refine ends (v := .tuple #[]) hA rfl .nil rfl ?_
   replace hM : Mg w0 w26 (.row 96 2 (.slice so24 ((gx ++ gap1 bh ls).length) ca25) ((gx ++ gap1 bh ls).length) (gapC (gx ++ gap1 bh ls)) :: .obj h (.cells #[.map (some m), .int .i64 (((last : Nat) : Int)), .int .i64 (((ss : Nat) : Int)), .slice sg gs.length sc, .int .i64 (((ls : Nat) : Int)), .slice so24 ((gx ++ gap1 bh ls).length) ca25] 73) :: .obj m (mapO (os.map Ob.en) last) :: .row 96 2 (.slice sg gs.length sc) gs.length (gapC gs) :: .row 79 2 (.slice zo zs.length zc) zs.length (obC zs) :: T) := hM.bring 3 rfl rfl
   replace hM : Mg w0 w26 (.row 96 2 (.slice sg gs.length sc) gs.length (gapC gs) :: .row 96 2 (.slice so24 ((gx ++ gap1 bh ls).length) ca25) ((gx ++ gap1 bh ls).length) (gapC (gx ++ gap1 bh ls)) :: .obj h (.cells #[.map (some m), .int .i64 (((last : Nat) : Int)), .int .i64 (((ss : Nat) : Int)), .slice sg gs.length sc, .int .i64 (((ls : Nat) : Int)), .slice so24 ((gx ++ gap1 bh ls).length) ca25] 73) :: .obj m (mapO (os.map Ob.en) last) :: .row 79 2 (.slice zo zs.length zc) zs.length (obC zs) :: T) := hM.bring 3 rfl rfl
   replace hM : Mg w0 w26 (.obj m (mapO (os.map Ob.en) last) :: .row 96 2 (.slice sg gs.length sc) gs.length (gapC gs) :: .row 96 2 (.slice so24 ((gx ++ gap1 bh ls).length) ca25) ((gx ++ gap1 bh ls).length) (gapC (gx ++ gap1 bh ls)) :: .obj h (.cells #[.map (some m), .int .i64 (((last : Nat) : Int)), .int .i64 (((ss : Nat) : Int)), .slice sg gs.length sc, .int .i64 (((ls : Nat) : Int)), .slice so24 ((gx ++ gap1 bh ls).length) ca25] 73) :: .row 79 2 (.slice zo zs.length zc) zs.length (obC zs) :: T) := hM.bring 3 rfl rfl
   replace hM : Mg w0 w26 (.obj h (.cells #[.map (some m), .int .i64 (((last : Nat) : Int)), .int .i64 (((ss : Nat) : Int)), .slice sg gs.length sc, .int .i64 (((ls : Nat) : Int)), .slice so24 ((gx ++ gap1 bh ls).length) ca25] 73) :: .obj m (mapO (os.map Ob.en) last) :: .row 96 2 (.slice sg gs.length sc) gs.length (gapC gs) :: .row 96 2 (.slice so24 ((gx ++ gap1 bh ls).length) ca25) ((gx ++ gap1 bh ls).length) (gapC (gx ++ gap1 bh ls)) :: .row 79 2 (.slice zo zs.length zc) zs.length (obC zs) :: T) := hM.bring 3 rfl rfl
   replace hM : Mg w0 w26 (.obj h (.cells #[.map (some m), .int .i64 (((last : Nat) : Int)), .int .i64 (((ss : Nat) : Int)), .slice sg gs.length sc, .int .i64 (((ls : Nat) : Int)), .slice so24 ((gx ++ gap1 bh ls).length) ca25] 73) :: .obj m (mapO (os.map Ob.en) last) :: .row 96 2 (.slice sg gs.length sc) gs.length (gapC gs) :: .row 96 2 (.slice so24 ((gx ++ gap1 bh ls).length) ca25) ((gx ++ gap1 bh ls).length) (gapC (gx ++ gap1 bh ls)) :: T) := by
     have h9 := hM.sub (.cons_cons _ (.cons_cons _ (.cons_cons _ (.cons_cons _ (.cons _ (.refl _))))))
     exact h9
   have e8 : zs.take i = zs := List.take_of_length_le (by omega)
   rw [e8] at hbh hgx
   have e9 : gx ++ gap1 bh ls = freeG ls zs := by rw [hgx, hbh]; rfl
   rw [e9] at hM
   exact ⟨_, _, rfl, hM⟩
end Go.Proofs.Ytcigofjajphmjaa
