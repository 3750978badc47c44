/- Walks of the document's utf16. -/
import Derived.Test.YtcjgjbaadmohbaaCpC
namespace Go.Proofs.Ytcjgjbaadmohbaa
open Go.RowKit
set_option linter.unusedVariables false
set_option linter.unusedSimpArgs false
set_option maxRecDepth 100000
theorem CpF_is1_21 : Is1 Try.prog 21 := ⟨⟨_, Try.underlying21, rfl⟩, by kernel_rfl⟩
theorem CpF_is1_5 : Is1 Try.prog 5 := ⟨⟨_, Try.underlying5, rfl⟩, by kernel_rfl⟩
set_option maxHeartbeats 4000000 in
theorem rutf16_p4 {w : World} {so : Option Addr} {cap : Nat} {l : List UInt8} (hb : Rb w so l) (hlen : l.length ≤ 1000000) (klen : (decide (2 ≤ ((l.length : Nat) : Int))) = true) (ka : (((((l.getD (0) 0).toNat : Nat) : Int) == 254)) = false) (kc : (((((l.getD (0) 0).toNat : Nat) : Int) == 255)) = true) (kd : (((((l.getD (1) 0).toNat : Nat) : Int) == 254)) = false) : Calls Try.prog 71 #[.slice so l.length cap] w fun e w' => ∃ v, e = .returned v ∧ Mg w w' [.row 78 3 v (unitsW l).length (unitV (unitsW l))] := by
 have klen' := of_decide_eq_true klen
 have ka' := ne_of_beq_false ka
 have kc' := eq_of_beq kc
 have kd' := ne_of_beq_false kd
 have hM : Mg w w ([]) := Mg.start w
 refine walk_of (l := [(0, .slice so l.length cap)]) Try.func71 rfl Try.ntmps71 rfl rfl ?_
 intro Q hret hnorm hP a hA
 refine wp_seq_k (fun K1 hK1 => ?_)
 refine wp_region_lit ?_
 refine seq_do hA rfl rfl rfl (does_assign rfl) ?_
 intro a hA
 refine seq_end ?_
 refine hK1 _ _ ?_
 refine wp_seq_k (fun K2 hK2 => ?_)
 refine wp_region_lit ?_
 refine s_litE (e := 78) (sz := 3) (m := 0) (vs := []) hA hM rfl rfl rfl (does_buildSlice rfl (by kernel_rfl)) rfl rfl (.inl (by decide)) ?_
 intro g3 w4 hM a hA
 refine seq_do hA rfl rfl rfl (does_assign rfl) ?_
 intro a hA
 refine seq_end ?_
 refine hK2 _ _ ?_
 refine wp_seq_k (fun K5 hK5 => ?_)
 refine wp_region_lit ?_
 refine seq_do hA rfl rfl rfl (does_assign rfl) ?_
 intro a hA
 refine seq_end ?_
 refine hK5 _ _ ?_
 refine wp_seq_k (fun K6 hK6 => ?_)
 refine wp_region_lit ?_
 refine seq_do hA rfl rfl rfl (does_assign rfl) ?_
 intro a hA
 refine seq_end ?_
 refine hK6 _ _ ?_
 refine wp_seq_k (fun K7 hK7 => ?_)
 refine wp_seq_k (fun K8 hK8 => ?_)
 refine wp_region_lit ?_
 refine seq_do hA rfl rfl rfl (does_move rfl) ?_
 intro a hA
 refine seq_do (v := .int .i64 (((l.length : Nat) : Int))) hA rfl rfl rfl (does_len Try.underlying24 rfl) ?_
 intro a hA
 refine seq_do (v := .bool true) hA rfl rfl rfl (does_bin rfl rfl (fun w => (bin_geq w).trans (by rw [show (decide (2 ≤ ((l.length : Nat) : Int))) = true from klen]))) ?_
 intro a hA
 refine seq_do hA rfl rfl rfl (does_move rfl) ?_
 intro a hA
 refine seq_do hA rfl rfl rfl (does_move rfl) ?_
 intro a hA
 obtain ⟨bx9, ox10, hxa11, hxb12, hxc13⟩ := rb_open (i := 0) hb (by omega)
 refine seq_do (v := .pointer (some ⟨bx9, ox10 + (0), none⟩)) hA rfl rfl rfl (does_indexRow Try.underlying24 (by kernel_rfl) rfl rfl rfl hxa11 (show 0 < l.length by omega)) ?_
 intro a hA
 refine seq_do (v := .int .u8 ((((l.getD (0) 0).toNat : Nat) : Int))) hA rfl rfl rfl (m_loadR hM hxb12 (hxc13 (0) (by omega)) CpF_is1_5 rfl) ?_
 intro a hA
 have hu14 := (l.getD (0) 0).toNat_lt
 refine seq_do (v := .bool false) hA rfl rfl rfl (does_bin rfl rfl (fun w => (bin_eql w).trans (by rw [show (((((l.getD (0) 0).toNat : Nat) : Int) == 254)) = false from ka]))) ?_
 intro a hA
 refine seq_do (v := .bool false) hA rfl rfl rfl (does_pick rfl rfl rfl rfl) ?_
 intro a hA
 refine seq_do hA rfl rfl rfl (does_move rfl) ?_
 intro a hA
 refine seq_skip hA rfl rfl rfl ?_
 intro a hA
 refine seq_skip hA rfl rfl rfl ?_
 intro a hA
 refine seq_skip hA rfl rfl rfl ?_
 intro a hA
 refine seq_skip hA rfl rfl rfl ?_
 intro a hA
 refine seq_do (v := .bool false) hA rfl rfl rfl (does_pick rfl rfl rfl rfl) ?_
 intro a hA
 refine seq_end ?_
 refine hK8 _ _ ?_
 refine wp_cond_false (hA.ev rfl) ?_
 refine wp_skip ?_
 refine hK7 _ _ ?_
 refine wp_seq_k (fun K15 hK15 => ?_)
 refine wp_seq_k (fun K16 hK16 => ?_)
 refine wp_region_lit ?_
 refine seq_do hA rfl rfl rfl (does_move rfl) ?_
 intro a hA
 refine seq_do (v := .int .i64 (((l.length : Nat) : Int))) hA rfl rfl rfl (does_len Try.underlying24 rfl) ?_
 intro a hA
 refine seq_do (v := .bool true) hA rfl rfl rfl (does_bin rfl rfl (fun w => (bin_geq w).trans (by rw [show (decide (2 ≤ ((l.length : Nat) : Int))) = true from klen]))) ?_
 intro a hA
 refine seq_do hA rfl rfl rfl (does_move rfl) ?_
 intro a hA
 refine seq_do hA rfl rfl rfl (does_move rfl) ?_
 intro a hA
 obtain ⟨bx17, ox18, hxa19, hxb20, hxc21⟩ := rb_open (i := 0) hb (by omega)
 refine seq_do (v := .pointer (some ⟨bx17, ox18 + (0), none⟩)) hA rfl rfl rfl (does_indexRow Try.underlying24 (by kernel_rfl) rfl rfl rfl hxa19 (show 0 < l.length by omega)) ?_
 intro a hA
 refine seq_do (v := .int .u8 ((((l.getD (0) 0).toNat : Nat) : Int))) hA rfl rfl rfl (m_loadR hM hxb20 (hxc21 (0) (by omega)) CpF_is1_5 rfl) ?_
 intro a hA
 have hu22 := (l.getD (0) 0).toNat_lt
 refine seq_do (v := .bool true) hA rfl rfl rfl (does_bin rfl rfl (fun w => (bin_eql w).trans (by rw [show (((((l.getD (0) 0).toNat : Nat) : Int) == 255)) = true from kc]))) ?_
 intro a hA
 refine seq_do (v := .bool true) hA rfl rfl rfl (does_pick rfl rfl rfl rfl) ?_
 intro a hA
 refine seq_do hA rfl rfl rfl (does_move rfl) ?_
 intro a hA
 refine seq_do hA rfl rfl rfl (does_move rfl) ?_
 intro a hA
 obtain ⟨bx23, ox24, hxa25, hxb26, hxc27⟩ := rb_open (i := 1) hb (by omega)
 refine seq_do (v := .pointer (some ⟨bx23, ox24 + (1), none⟩)) hA rfl rfl rfl (does_indexRow Try.underlying24 (by kernel_rfl) rfl rfl rfl hxa25 (show 1 < l.length by omega)) ?_
 intro a hA
 refine seq_do (v := .int .u8 ((((l.getD (1) 0).toNat : Nat) : Int))) hA rfl rfl rfl (m_loadR hM hxb26 (hxc27 (1) (by omega)) CpF_is1_5 rfl) ?_
 intro a hA
 have hu28 := (l.getD (1) 0).toNat_lt
 refine seq_do (v := .bool false) hA rfl rfl rfl (does_bin rfl rfl (fun w => (bin_eql w).trans (by rw [show (((((l.getD (1) 0).toNat : Nat) : Int) == 254)) = false from kd]))) ?_
 intro a hA
 refine seq_do (v := .bool false) hA rfl rfl rfl (does_pick rfl rfl rfl rfl) ?_
 intro a hA
 refine seq_end ?_
 refine hK16 _ _ ?_
 refine wp_cond_false (hA.ev rfl) ?_
 refine wp_skip ?_
 refine hK15 _ _ ?_
 refine wp_seq_k (fun K29 hK29 => ?_)
 refine wp_region_lit ?_
 refine s_litE (e := 21) (sz := 1) (m := 0) (vs := []) hA hM rfl rfl rfl (does_buildSlice rfl (by kernel_rfl)) rfl rfl (.inl (by decide)) ?_
 intro g30 w31 hM a hA
 refine seq_do hA rfl rfl rfl (does_assign rfl) ?_
 intro a hA
 refine seq_end ?_
 refine hK29 _ _ ?_
 refine wp_seq_k (fun K32 hK32 => ?_)
 refine wp_region_lit ?_
 refine seq_do hA rfl rfl rfl (does_move rfl) ?_
 intro a hA
 refine seq_do hA rfl rfl rfl (does_assign rfl) ?_
 intro a hA
 refine seq_end ?_
 refine hK32 _ _ ?_
 refine wp_seq_k (fun K33 hK33 => ?_)
 refine wp_seq_k (fun K34 hK34 => ?_)
 refine wp_region_lit ?_
 refine seq_do hA rfl rfl rfl (does_move rfl) ?_
 intro a hA
 refine seq_do hA rfl rfl rfl (does_assign rfl) ?_
 intro a hA
 refine seq_end ?_
 refine hK34 _ _ ?_
 refine wp_block ?_
 refine wp_loop_n (fun m_ a w1 => ∃ (q : Nat) (sn : Option Addr) (cn : Nat), m_ = l.length - q ∧ (0 + 2 * q ≤ l.length ∨ q = 0) ∧ Sl a 175 [(0, .slice so l.length cap), (2, .slice none 0 0), (3, .slice (some ⟨g3, 0, none⟩) 0 0), (4, .int .i64 0), (5, .bool false), (6, .slice sn q cn), (7, .int .i64 0), (8, .int .i64 (((0 + 2 * q : Nat) : Int))), (13, .slice (some ⟨g3, 0, none⟩) 0 0), (14, .slice so l.length cap), (15, .int .i64 (((l.length : Nat) : Int))), (16, .bool true), (17, .bool true), (18, .slice so l.length cap), (19, .pointer (some ⟨bx9, ox10 + (0), none⟩)), (20, .int .u8 ((((l.getD (0) 0).toNat : Nat) : Int))), (21, .bool false), (22, .bool false), (23, .bool false), (28, .bool false), (29, .slice so l.length cap), (30, .int .i64 (((l.length : Nat) : Int))), (31, .bool true), (32, .bool true), (33, .slice so l.length cap), (34, .pointer (some ⟨bx17, ox18 + (0), none⟩)), (35, .int .u8 ((((l.getD (0) 0).toNat : Nat) : Int))), (36, .bool true), (37, .bool true), (38, .bool true), (39, .slice so l.length cap), (40, .pointer (some ⟨bx23, ox24 + (1), none⟩)), (41, .int .u8 ((((l.getD (1) 0).toNat : Nat) : Int))), (42, .bool false), (43, .bool false), (44, .slice (some ⟨g30, 0, none⟩) 0 0), (45, .int .i64 0), (46, .int .i64 0)] ∧ Mg w w1 (.row 21 1 (.slice sn q cn) q ((runeV (numsL hi2 l 0 q))) :: .row 78 3 (.slice (some ⟨g3, 0, none⟩) 0 0) 0 ([]) :: [])) _ ⟨0, some ⟨g30, 0, none⟩, 0, rfl, by omega, hA.keep _ ⟨rfl, rfl, rfl, rfl, rfl, rfl, rfl, rfl, rfl, rfl, rfl, rfl, rfl, rfl, rfl, rfl, rfl, rfl, rfl, rfl, rfl, rfl, rfl, rfl, rfl, rfl, rfl, rfl, rfl, rfl, rfl, rfl, rfl, rfl, rfl, rfl, rfl, rfl, trivial⟩, hM⟩ ?_
 clear hM hA
 rintro m_ a w35 ⟨q, sn, cn, rfl, hinv37, hA, hM⟩ K36 hK36
 refine wp_seq_k (fun K38 hK38 => ?_)
 refine wp_seq_k (fun K39 hK39 => ?_)
 refine wp_region_lit ?_
 refine seq_do hA rfl rfl rfl (does_move rfl) ?_
 intro a hA
 refine seq_do (v := .int .i64 (((0 + 2 * q + 1 : Nat) : Int))) hA rfl rfl rfl (does_bin rfl rfl (ar_add ((in_i64 (by omega) (by omega)).trans (by omega)))) ?_
 intro a hA
 refine seq_do hA rfl rfl rfl (does_move rfl) ?_
 intro a hA
 refine seq_do (v := .int .i64 (((l.length : Nat) : Int))) hA rfl rfl rfl (does_len Try.underlying24 rfl) ?_
 intro a hA
 rcases Bool.eq_false_or_eq_true (decide (((0 + 2 * q + 1 : Nat) : Int) < ((l.length : Nat) : Int))) with hb40 | hb40
 · have hb40' := of_decide_eq_true hb40
   refine seq_do (v := .bool true) hA rfl rfl rfl (does_bin rfl rfl (fun w => (bin_lss w).trans (by rw [hb40]))) ?_
   intro a hA
   refine seq_end ?_
   refine hK39 _ _ ?_
   refine wp_cond_true (hA.ev rfl) ?_
   refine wp_skip ?_
   refine hK38 _ _ ?_
   refine wp_seq_k (fun K41 hK41 => ?_)
   refine wp_block ?_
   refine wp_seq_k (fun K42 hK42 => ?_)
   refine wp_draw (S := fun w1 => Mg w w1 ([])) (by kernel_rfl) ?_
   replace hM := hM.drew
   refine any_tk hA 0 rfl rfl rfl rfl hP (hM.sub (.cons _ (.cons _ (List.nil_sublist _)))) (fun w1 hM => does_move rfl) ?_
   intro a hA
   refine any_tk hA 1 rfl rfl rfl rfl hP (hM.sub (.cons _ (.cons _ (List.nil_sublist _)))) (fun w1 hM => does_move rfl) ?_
   intro a hA
   obtain ⟨bx43, ox44, hxa45, hxb46, hxc47⟩ := rb_open (i := 0 + 2 * q) hb (by omega)
   refine any_tk (v := .pointer (some ⟨bx43, ox44 + (0 + 2 * q), none⟩)) hA 2 rfl rfl rfl rfl hP (hM.sub (.cons _ (.cons _ (List.nil_sublist _)))) (fun w1 hM => does_indexRow Try.underlying24 (by kernel_rfl) rfl rfl rfl hxa45 (show 0 + 2 * q < l.length by omega)) ?_
   intro a hA
   refine any_tk (v := .int .u8 ((((l.getD (0 + 2 * q) 0).toNat : Nat) : Int))) hA 3 rfl rfl rfl rfl hP (hM.sub (.cons _ (.cons _ (List.nil_sublist _)))) (fun w1 hM => m_loadR hM hxb46 (hxc47 (0 + 2 * q) (by omega)) CpF_is1_5 rfl) ?_
   intro a hA
   have hu48 := (l.getD (0 + 2 * q) 0).toNat_lt
   refine any_tk (v := .int .i32 ((((l.getD (0 + 2 * q) 0).toNat : Nat) : Int))) hA 4 rfl rfl rfl rfl hP (hM.sub (.cons _ (.cons _ (List.nil_sublist _)))) (fun w1 hM => does_convert rfl (ar_conv Try.underlying5 Try.underlying21 (in_i32 (by omega) (by omega)))) ?_
   intro a hA
   refine any_tk (v := .int .i32 ((((l.getD (0 + 2 * q) 0).toNat : Nat) : Int) * 256)) hA 5 rfl rfl rfl rfl hP (hM.sub (.cons _ (.cons _ (List.nil_sublist _)))) (fun w1 hM => does_bin rfl rfl (ar_mul (in_i32 (by omega) (by omega)))) ?_
   intro a hA
   refine any_tk hA 6 rfl rfl rfl rfl hP (hM.sub (.cons _ (.cons _ (List.nil_sublist _)))) (fun w1 hM => does_move rfl) ?_
   intro a hA
   refine any_tk hA 7 rfl rfl rfl rfl hP (hM.sub (.cons _ (.cons _ (List.nil_sublist _)))) (fun w1 hM => does_move rfl) ?_
   intro a hA
   refine any_tk (v := .int .i64 (((0 + 2 * q + 1 : Nat) : Int))) hA 8 rfl rfl rfl rfl hP (hM.sub (.cons _ (.cons _ (List.nil_sublist _)))) (fun w1 hM => does_bin rfl rfl (ar_add ((in_i64 (by omega) (by omega)).trans (by omega)))) ?_
   intro a hA
   obtain ⟨bx49, ox50, hxa51, hxb52, hxc53⟩ := rb_open (i := 0 + 2 * q + 1) hb (by omega)
   refine any_tk (v := .pointer (some ⟨bx49, ox50 + (0 + 2 * q + 1), none⟩)) hA 9 rfl rfl rfl rfl hP (hM.sub (.cons _ (.cons _ (List.nil_sublist _)))) (fun w1 hM => does_indexRow Try.underlying24 (by kernel_rfl) rfl rfl rfl hxa51 (show 0 + 2 * q + 1 < l.length by omega)) ?_
   intro a hA
   refine any_tk (v := .int .u8 ((((l.getD (0 + 2 * q + 1) 0).toNat : Nat) : Int))) hA 10 rfl rfl rfl rfl hP (hM.sub (.cons _ (.cons _ (List.nil_sublist _)))) (fun w1 hM => m_loadR hM hxb52 (hxc53 (0 + 2 * q + 1) (by omega)) CpF_is1_5 rfl) ?_
   intro a hA
   have hu54 := (l.getD (0 + 2 * q + 1) 0).toNat_lt
   refine any_tk (v := .int .i32 ((((l.getD (0 + 2 * q + 1) 0).toNat : Nat) : Int))) hA 11 rfl rfl rfl rfl hP (hM.sub (.cons _ (.cons _ (List.nil_sublist _)))) (fun w1 hM => does_convert rfl (ar_conv Try.underlying5 Try.underlying21 (in_i32 (by omega) (by omega)))) ?_
   intro a hA
   refine any_tk (v := .int .i32 (((hi2 (l.getD (0 + 2 * q) 0).toNat (l.getD (0 + 2 * q + 1) 0).toNat : Nat) : Int))) hA 12 rfl rfl rfl rfl hP (hM.sub (.cons _ (.cons _ (List.nil_sublist _)))) (fun w1 hM => does_bin rfl rfl (ar_add ((in_i32 (by omega) (by omega)).trans (by unfold hi2; omega)))) ?_
   intro a hA
   refine any_tk hA 13 rfl rfl rfl rfl hP (hM.sub (.cons _ (.cons _ (List.nil_sublist _)))) (fun w1 hM => does_assign rfl) ?_
   intro a hA
   refine any_end (by kernel_rfl) ?_
   refine hK42 _ _ ?_
   refine wp_seq_k (fun K55 hK55 => ?_)
   refine wp_seq_k (fun K56 hK56 => ?_)
   refine wp_region_lit ?_
   refine seq_do hA rfl rfl rfl (does_move rfl) ?_
   intro a hA
   refine seq_end ?_
   refine hK56 _ _ ?_
   refine wp_cond_false (hA.ev rfl) ?_
   refine wp_skip ?_
   refine hK55 _ _ ?_
   refine wp_region_lit ?_
   refine seq_do hA rfl rfl rfl (does_move rfl) ?_
   intro a hA
   refine seq_do hA rfl rfl rfl (does_move rfl) ?_
   intro a hA
   refine s_litE (e := 21) (sz := 1) (m := 1) (vs := [.int .i32 (((hi2 (l.getD (0 + 2 * q) 0).toNat (l.getD (0 + 2 * q + 1) 0).toNat : Nat) : Int))]) hA hM rfl rfl rfl (does_buildSlice rfl (by kernel_rfl)) rfl rfl (.inl (by decide)) ?_
   intro g57 w58 hM a hA
   refine s_appendE (e := 21) (sz := 1) (k := 1) (q := q) (m := 1) (xs := (runeV (numsL hi2 l 0 q))) (news := [.int .i32 (((hi2 (l.getD (0 + 2 * q) 0).toNat (l.getD (0 + 2 * q + 1) 0).toNat : Nat) : Int))]) (L' := fun v59 => (.row 21 1 (.slice (some ⟨g57, 0, none⟩) 1 1) 1 ([.int .i32 (((hi2 (l.getD (0 + 2 * q) 0).toNat (l.getD (0 + 2 * q + 1) 0).toNat : Nat) : Int))]) :: .row 21 1 (v59) (q + 1) ((runeV (numsL hi2 l 0 q)) ++ [.int .i32 (((hi2 (l.getD (0 + 2 * q) 0).toNat (l.getD (0 + 2 * q + 1) 0).toNat : Nat) : Int))]) :: .row 78 3 (.slice (some ⟨g3, 0, none⟩) 0 0) 0 ([]) :: [])) hA rfl rfl rfl (m_appendE (z := .int .i32 0) (sz := 1) (by_ := 4) Try.underlying74 (by kernel_rfl) rfl rfl rfl hM 1 rfl rfl 0 rfl rfl rfl rfl (by omega)) (fun _ => rfl) ?_
   intro v59 w60 hM a hA
   refine seq_do hA rfl rfl rfl (does_assign rfl) ?_
   intro a hA
   refine seq_end ?_
   refine hK41 _ _ ?_
   refine wp_region_lit ?_
   refine seq_do hA rfl rfl rfl (does_move rfl) ?_
   intro a hA
   refine seq_do (v := .int .i64 (((0 + 2 * q + 2 : Nat) : Int))) hA rfl rfl rfl (does_bin rfl rfl (ar_add ((in_i64 (by omega) (by omega)).trans (by omega)))) ?_
   intro a hA
   refine seq_do hA rfl rfl rfl (does_assign rfl) ?_
   intro a hA
   refine seq_end ?_
   replace hM : Mg w w60 (.row 21 1 (v59) ((q + 1)) ((runeV (numsL hi2 l 0 (q + 1)))) :: .row 78 3 (.slice (some ⟨g3, 0, none⟩) 0 0) 0 ([]) :: []) := by
     have h9 := hM.sub (.cons _ (.cons_cons _ (.cons_cons _ (.refl _))))
     rw [nums_more]
     unfold runeV at h9 ⊢
     rw [List.map_append]
     exact h9
   obtain ⟨so61, ca62, rfl⟩ := owns_sliceE (hM.has 0 rfl)
   refine hK36 _ _ _ (by omega) ⟨q + 1, so61, ca62, rfl, by omega, hA.keep _ ⟨rfl, rfl, rfl, rfl, rfl, rfl, rfl, rfl, rfl, rfl, rfl, rfl, rfl, rfl, rfl, rfl, rfl, rfl, rfl, rfl, rfl, rfl, rfl, rfl, rfl, rfl, rfl, rfl, rfl, rfl, rfl, rfl, rfl, rfl, rfl, rfl, rfl, rfl, trivial⟩, hM⟩
 · have hb40' := of_decide_eq_false hb40
   refine seq_do (v := .bool false) hA rfl rfl rfl (does_bin rfl rfl (fun w => (bin_lss w).trans (by rw [hb40]))) ?_
   intro a hA
   refine seq_end ?_
   refine hK39 _ _ ?_
   refine wp_cond_false (hA.ev rfl) ?_
   refine wp_exit ?_
   refine hK33 _ _ ?_
   refine wp_seq_k (fun K63 hK63 => ?_)
   refine wp_seq_k (fun K64 hK64 => ?_)
   refine wp_region_lit ?_
   refine seq_do hA rfl rfl rfl (does_assign rfl) ?_
   intro a hA
   refine seq_end ?_
   refine hK64 _ _ ?_
   refine wp_block ?_
   refine wp_loop_n (fun m_ a w1 => ∃ (i2 : Nat) (acc : List (Int × Int)) (vo : Value), m_ = q - i2 ∧ (acc ++ restW hi2 l (0 + 2 * i2) = unitsW l ∧ i2 ≤ q ∧ acc.length ≤ i2) ∧ Sl a 175 [(0, .slice so l.length cap), (2, .slice none 0 0), (3, vo), (4, .int .i64 0), (5, .bool false), (6, .slice sn q cn), (7, .int .i64 0), (8, .int .i64 (((0 + 2 * q : Nat) : Int))), (10, .int .i64 (((i2 : Nat) : Int))), (13, .slice (some ⟨g3, 0, none⟩) 0 0), (14, .slice so l.length cap), (15, .int .i64 (((l.length : Nat) : Int))), (16, .bool true), (17, .bool true), (18, .slice so l.length cap), (19, .pointer (some ⟨bx9, ox10 + (0), none⟩)), (20, .int .u8 ((((l.getD (0) 0).toNat : Nat) : Int))), (21, .bool false), (22, .bool false), (23, .bool false), (28, .bool false), (29, .slice so l.length cap), (30, .int .i64 (((l.length : Nat) : Int))), (31, .bool true), (32, .bool true), (33, .slice so l.length cap), (34, .pointer (some ⟨bx17, ox18 + (0), none⟩)), (35, .int .u8 ((((l.getD (0) 0).toNat : Nat) : Int))), (36, .bool true), (37, .bool true), (38, .bool true), (39, .slice so l.length cap), (40, .pointer (some ⟨bx23, ox24 + (1), none⟩)), (41, .int .u8 ((((l.getD (1) 0).toNat : Nat) : Int))), (42, .bool false), (43, .bool false), (44, .slice (some ⟨g30, 0, none⟩) 0 0), (45, .int .i64 0), (46, .int .i64 0), (47, .int .i64 (((0 + 2 * q : Nat) : Int))), (48, .int .i64 (((0 + 2 * q + 1 : Nat) : Int))), (49, .slice so l.length cap), (50, .int .i64 (((l.length : Nat) : Int))), (51, .bool false)] ∧ Mg w w1 (.row 21 1 (.slice sn q cn) q ((runeV (numsL hi2 l 0 q))) :: .row 78 3 (vo) acc.length ((unitV acc)) :: [])) _ ⟨0, [], .slice (some ⟨g3, 0, none⟩) 0 0, rfl, ⟨by rw [Nat.mul_zero, Nat.add_zero, List.nil_append, markW_no (by omega)], Nat.zero_le _, Nat.le_refl _⟩, hA.keep _ ⟨rfl, rfl, rfl, rfl, rfl, rfl, rfl, rfl, rfl, rfl, rfl, rfl, rfl, rfl, rfl, rfl, rfl, rfl, rfl, rfl, rfl, rfl, rfl, rfl, rfl, rfl, rfl, rfl, rfl, rfl, rfl, rfl, rfl, rfl, rfl, rfl, rfl, rfl, rfl, rfl, rfl, rfl, rfl, rfl, trivial⟩, hM⟩ ?_
   clear hM hA
   rintro m_ a w65 ⟨i2, acc, vo, rfl, hinv67, hA, hM⟩ K66 hK66
   obtain ⟨hrun, hi9, hacc⟩ := hinv67
   refine wp_seq_k (fun K68 hK68 => ?_)
   refine wp_seq_k (fun K69 hK69 => ?_)
   refine wp_region_lit ?_
   refine seq_do hA rfl rfl rfl (does_move rfl) ?_
   intro a hA
   refine seq_do hA rfl rfl rfl (does_move rfl) ?_
   intro a hA
   refine seq_do (v := .int .i64 (((q : Nat) : Int))) hA rfl rfl rfl (does_len Try.underlying74 rfl) ?_
   intro a hA
   rcases Bool.eq_false_or_eq_true (decide (((i2 : Nat) : Int) < ((q : Nat) : Int))) with hb70 | hb70
   · have hb70' := of_decide_eq_true hb70
     refine seq_do (v := .bool true) hA rfl rfl rfl (does_bin rfl rfl (fun w => (bin_lss w).trans (by rw [hb70]))) ?_
     intro a hA
     refine seq_end ?_
     refine hK69 _ _ ?_
     refine wp_cond_true (hA.ev rfl) ?_
     refine wp_skip ?_
     refine hK68 _ _ ?_
     refine wp_seq_k (fun K71 hK71 => ?_)
     refine wp_block ?_
     refine wp_seq_k (fun K72 hK72 => ?_)
     refine wp_region_lit ?_
     refine seq_do hA rfl rfl rfl (does_move rfl) ?_
     intro a hA
     refine seq_do hA rfl rfl rfl (does_move rfl) ?_
     intro a hA
     obtain ⟨gn, hgn⟩ := row_addr hM 0 rfl (show 0 < q by omega)
     refine seq_do (v := .pointer (some ⟨gn, (i2) * 1, none⟩)) hA rfl rfl rfl (does_indexX Try.underlying74 (by kernel_rfl) rfl rfl rfl hgn (show i2 < q by omega)) ?_
     intro a hA
     obtain ⟨n, hn⟩ : ∃ n : Nat, hi2 (l.getD (0 + 2 * (i2)) 0).toNat (l.getD (0 + 2 * (i2) + 1) 0).toNat = n := ⟨_, rfl⟩
     have hltn : n < 65536 := hn ▸ hi2_lt _ _
     refine seq_do (v := .int .i32 (((n : Nat) : Int))) hA rfl rfl rfl (m_loadX hM 0 rfl hgn ((nums_at (g := hi2) (l := l) (f := 0) (n := q) (j := i2) (by omega)).trans (by rw [hn])) CpF_is1_21 rfl) ?_
     intro a hA
     refine seq_do hA rfl rfl rfl (does_assign rfl) ?_
     intro a hA
     refine seq_end ?_
     refine hK72 _ _ ?_
     refine wp_seq_k (fun K73 hK73 => ?_)
     refine wp_region_lit ?_
     refine seq_do hA rfl rfl rfl (does_move rfl) ?_
     intro a hA
     refine seq_do hA rfl rfl rfl (does_move rfl) ?_
     intro a hA
     refine seq_do (v := .int .i64 (((2 * i2 : Nat) : Int))) hA rfl rfl rfl (does_bin rfl rfl (ar_mul ((in_i64 (by omega) (by omega)).trans (by omega)))) ?_
     intro a hA
     refine seq_do (v := .int .i64 (((0 + 2 * i2 : Nat) : Int))) hA rfl rfl rfl (does_bin rfl rfl (ar_add ((in_i64 (by omega) (by omega)).trans (by omega)))) ?_
     intro a hA
     refine seq_do hA rfl rfl rfl (does_assign rfl) ?_
     intro a hA
     refine seq_end ?_
     refine hK73 _ _ ?_
     refine wp_block ?_
     refine wp_seq_k (fun K74 hK74 => ?_)
     refine wp_region_lit ?_
     refine seq_do hA rfl rfl rfl (does_move rfl) ?_
     intro a hA
     rcases Bool.eq_false_or_eq_true (decide (((n : Nat) : Int) < 55296)) with hb75 | hb75
     · have hb75' := of_decide_eq_true hb75
       refine seq_do (v := .bool true) hA rfl rfl rfl (does_bin rfl rfl (fun w => (bin_lss w).trans (by rw [hb75]))) ?_
       intro a hA
       refine seq_do hA rfl rfl rfl (does_move rfl) ?_
       intro a hA
       refine seq_skip hA rfl rfl rfl ?_
       intro a hA
       refine seq_skip hA rfl rfl rfl ?_
       intro a hA
       refine seq_do (v := .bool true) hA rfl rfl rfl (does_pick rfl rfl rfl rfl) ?_
       intro a hA
       refine seq_do hA rfl rfl rfl (does_assign rfl) ?_
       intro a hA
       refine seq_end ?_
       refine hK74 _ _ ?_
       refine wp_cond_true (hA.ev rfl) ?_
       refine wp_region_lit ?_
       refine seq_do hA rfl rfl rfl (does_move rfl) ?_
       intro a hA
       refine seq_do hA rfl rfl rfl (does_move rfl) ?_
       intro a hA
       refine seq_do hA rfl rfl rfl (does_move rfl) ?_
       intro a hA
       refine seq_do (v := .agg #[.int .i32 (((n : Nat) : Int)), .bool false, .int .i64 (((0 + 2 * i2 : Nat) : Int))]) hA rfl rfl rfl (does_build rfl (fun w => by kernel_rfl)) ?_
       intro a hA
       refine s_litE (e := 78) (sz := 3) (m := 1) (vs := [.int .i32 (((n : Nat) : Int)), .bool false, .int .i64 (((0 + 2 * i2 : Nat) : Int))]) hA hM rfl rfl rfl (does_buildSlice rfl (by kernel_rfl)) rfl rfl (.inl (by decide)) ?_
       intro g76 w77 hM a hA
       refine s_appendE (e := 78) (sz := 3) (k := 2) (q := acc.length) (m := 1) (xs := (unitV acc)) (news := [.int .i32 (((n : Nat) : Int)), .bool false, .int .i64 (((0 + 2 * i2 : Nat) : Int))]) (L' := fun v78 => (.row 78 3 (.slice (some ⟨g76, 0, none⟩) 1 1) 1 ([.int .i32 (((n : Nat) : Int)), .bool false, .int .i64 (((0 + 2 * i2 : Nat) : Int))]) :: .row 21 1 (.slice sn q cn) q ((runeV (numsL hi2 l 0 q))) :: .row 78 3 (v78) (acc.length + 1) ((unitV acc) ++ [.int .i32 (((n : Nat) : Int)), .bool false, .int .i64 (((0 + 2 * i2 : Nat) : Int))]) :: [])) hA rfl rfl rfl (m_appendE (z := .agg #[.int .i32 0, .bool false, .int .i64 0]) (sz := 3) (by_ := 16) Try.underlying75 (by kernel_rfl) rfl rfl rfl hM 2 rfl rfl 0 rfl rfl rfl rfl (by omega)) (fun _ => rfl) ?_
       intro v78 w79 hM a hA
       refine seq_do hA rfl rfl rfl (does_assign rfl) ?_
       intro a hA
       refine seq_end ?_
       refine hK71 _ _ ?_
       refine wp_region_lit ?_
       refine seq_do hA rfl rfl rfl (does_move rfl) ?_
       intro a hA
       refine seq_do (v := .int .i64 (((i2 + 1 : Nat) : Int))) hA rfl rfl rfl (does_bin rfl rfl (ar_add ((in_i64 (by omega) (by omega)).trans (by omega)))) ?_
       intro a hA
       refine seq_do hA rfl rfl rfl (does_assign rfl) ?_
       intro a hA
       refine seq_end ?_
       replace hM : Mg w w79 (.row 21 1 (.slice sn q cn) q ((runeV (numsL hi2 l 0 q))) :: .row 78 3 (v78) ((acc ++ [(((0 + 2 * i2 : Nat) : Int), ((n : Nat) : Int))]).length) ((unitV (acc ++ [(((0 + 2 * i2 : Nat) : Int), ((n : Nat) : Int))]))) :: []) := by
         have h9 := hM.sub (.cons _ (.cons_cons _ (.cons_cons _ (.refl _))))
         rw [unitV_snoc_good (by omega), List.length_append]
         exact h9
       refine hK66 _ _ _ (by omega) ⟨i2 + 1, acc ++ [(((0 + 2 * i2 : Nat) : Int), ((n : Nat) : Int))], v78, rfl, ⟨by rw [← hrun, pair_one (g := hi2) (l := l) (p := 0 + 2 * i2) (by omega) hn (by omega), show 0 + 2 * (i2 + 1) = 0 + 2 * i2 + 2 from by omega, List.append_assoc]; rfl, by omega, by rw [List.length_append]; simp only [List.length_cons, List.length_nil]; omega⟩, hA.keep _ ⟨rfl, rfl, rfl, rfl, rfl, rfl, rfl, rfl, rfl, rfl, rfl, rfl, rfl, rfl, rfl, rfl, rfl, rfl, rfl, rfl, rfl, rfl, rfl, rfl, rfl, rfl, rfl, rfl, rfl, rfl, rfl, rfl, rfl, rfl, rfl, rfl, rfl, rfl, rfl, rfl, rfl, rfl, rfl, rfl, trivial⟩, hM⟩
     · have hb75' := of_decide_eq_false hb75
       refine seq_do (v := .bool false) hA rfl rfl rfl (does_bin rfl rfl (fun w => (bin_lss w).trans (by rw [hb75]))) ?_
       intro a hA
       refine seq_do hA rfl rfl rfl (does_move rfl) ?_
       intro a hA
       refine seq_do hA rfl rfl rfl (does_move rfl) ?_
       intro a hA
       rcases Bool.eq_false_or_eq_true (decide (57343 < ((n : Nat) : Int))) with hb80 | hb80
       · have hb80' := of_decide_eq_true hb80
         refine seq_do (v := .bool true) hA rfl rfl rfl (does_bin rfl rfl (fun w => (bin_gtr w).trans (by rw [hb80]))) ?_
         intro a hA
         refine seq_do (v := .bool true) hA rfl rfl rfl (does_pick rfl rfl rfl rfl) ?_
         intro a hA
         refine seq_do hA rfl rfl rfl (does_assign rfl) ?_
         intro a hA
         refine seq_end ?_
         refine hK74 _ _ ?_
         refine wp_cond_true (hA.ev rfl) ?_
         refine wp_region_lit ?_
         refine seq_do hA rfl rfl rfl (does_move rfl) ?_
         intro a hA
         refine seq_do hA rfl rfl rfl (does_move rfl) ?_
         intro a hA
         refine seq_do hA rfl rfl rfl (does_move rfl) ?_
         intro a hA
         refine seq_do (v := .agg #[.int .i32 (((n : Nat) : Int)), .bool false, .int .i64 (((0 + 2 * i2 : Nat) : Int))]) hA rfl rfl rfl (does_build rfl (fun w => by kernel_rfl)) ?_
         intro a hA
         refine s_litE (e := 78) (sz := 3) (m := 1) (vs := [.int .i32 (((n : Nat) : Int)), .bool false, .int .i64 (((0 + 2 * i2 : Nat) : Int))]) hA hM rfl rfl rfl (does_buildSlice rfl (by kernel_rfl)) rfl rfl (.inl (by decide)) ?_
         intro g81 w82 hM a hA
         refine s_appendE (e := 78) (sz := 3) (k := 2) (q := acc.length) (m := 1) (xs := (unitV acc)) (news := [.int .i32 (((n : Nat) : Int)), .bool false, .int .i64 (((0 + 2 * i2 : Nat) : Int))]) (L' := fun v83 => (.row 78 3 (.slice (some ⟨g81, 0, none⟩) 1 1) 1 ([.int .i32 (((n : Nat) : Int)), .bool false, .int .i64 (((0 + 2 * i2 : Nat) : Int))]) :: .row 21 1 (.slice sn q cn) q ((runeV (numsL hi2 l 0 q))) :: .row 78 3 (v83) (acc.length + 1) ((unitV acc) ++ [.int .i32 (((n : Nat) : Int)), .bool false, .int .i64 (((0 + 2 * i2 : Nat) : Int))]) :: [])) hA rfl rfl rfl (m_appendE (z := .agg #[.int .i32 0, .bool false, .int .i64 0]) (sz := 3) (by_ := 16) Try.underlying75 (by kernel_rfl) rfl rfl rfl hM 2 rfl rfl 0 rfl rfl rfl rfl (by omega)) (fun _ => rfl) ?_
         intro v83 w84 hM a hA
         refine seq_do hA rfl rfl rfl (does_assign rfl) ?_
         intro a hA
         refine seq_end ?_
         refine hK71 _ _ ?_
         refine wp_region_lit ?_
         refine seq_do hA rfl rfl rfl (does_move rfl) ?_
         intro a hA
         refine seq_do (v := .int .i64 (((i2 + 1 : Nat) : Int))) hA rfl rfl rfl (does_bin rfl rfl (ar_add ((in_i64 (by omega) (by omega)).trans (by omega)))) ?_
         intro a hA
         refine seq_do hA rfl rfl rfl (does_assign rfl) ?_
         intro a hA
         refine seq_end ?_
         replace hM : Mg w w84 (.row 21 1 (.slice sn q cn) q ((runeV (numsL hi2 l 0 q))) :: .row 78 3 (v83) ((acc ++ [(((0 + 2 * i2 : Nat) : Int), ((n : Nat) : Int))]).length) ((unitV (acc ++ [(((0 + 2 * i2 : Nat) : Int), ((n : Nat) : Int))]))) :: []) := by
           have h9 := hM.sub (.cons _ (.cons_cons _ (.cons_cons _ (.refl _))))
           rw [unitV_snoc_good (by omega), List.length_append]
           exact h9
         refine hK66 _ _ _ (by omega) ⟨i2 + 1, acc ++ [(((0 + 2 * i2 : Nat) : Int), ((n : Nat) : Int))], v83, rfl, ⟨by rw [← hrun, pair_one (g := hi2) (l := l) (p := 0 + 2 * i2) (by omega) hn (by omega), show 0 + 2 * (i2 + 1) = 0 + 2 * i2 + 2 from by omega, List.append_assoc]; rfl, by omega, by rw [List.length_append]; simp only [List.length_cons, List.length_nil]; omega⟩, hA.keep _ ⟨rfl, rfl, rfl, rfl, rfl, rfl, rfl, rfl, rfl, rfl, rfl, rfl, rfl, rfl, rfl, rfl, rfl, rfl, rfl, rfl, rfl, rfl, rfl, rfl, rfl, rfl, rfl, rfl, rfl, rfl, rfl, rfl, rfl, rfl, rfl, rfl, rfl, rfl, rfl, rfl, rfl, rfl, rfl, rfl, trivial⟩, hM⟩
       · have hb80' := of_decide_eq_false hb80
         refine seq_do (v := .bool false) hA rfl rfl rfl (does_bin rfl rfl (fun w => (bin_gtr w).trans (by rw [hb80]))) ?_
         intro a hA
         refine seq_do (v := .bool false) hA rfl rfl rfl (does_pick rfl rfl rfl rfl) ?_
         intro a hA
         refine seq_do hA rfl rfl rfl (does_assign rfl) ?_
         intro a hA
         refine seq_end ?_
         refine hK74 _ _ ?_
         refine wp_cond_false (hA.ev rfl) ?_
         refine wp_seq_k (fun K85 hK85 => ?_)
         refine wp_region_lit ?_
         refine seq_do hA rfl rfl rfl (does_move rfl) ?_
         intro a hA
         rcases Bool.eq_false_or_eq_true (decide (((n : Nat) : Int) ≤ 56319)) with hb86 | hb86
         · have hb86' := of_decide_eq_true hb86
           refine seq_do (v := .bool true) hA rfl rfl rfl (does_bin rfl rfl (fun w => (bin_leq w).trans (by rw [hb86]))) ?_
           intro a hA
           refine seq_do hA rfl rfl rfl (does_move rfl) ?_
           intro a hA
           refine seq_do hA rfl rfl rfl (does_move rfl) ?_
           intro a hA
           refine seq_do (v := .int .i64 (((i2 + 1 : Nat) : Int))) hA rfl rfl rfl (does_bin rfl rfl (ar_add ((in_i64 (by omega) (by omega)).trans (by omega)))) ?_
           intro a hA
           refine seq_do hA rfl rfl rfl (does_move rfl) ?_
           intro a hA
           refine seq_do (v := .int .i64 (((q : Nat) : Int))) hA rfl rfl rfl (does_len Try.underlying74 rfl) ?_
           intro a hA
           rcases Bool.eq_false_or_eq_true (decide (((i2 + 1 : Nat) : Int) < ((q : Nat) : Int))) with hb87 | hb87
           · have hb87' := of_decide_eq_true hb87
             refine seq_do (v := .bool true) hA rfl rfl rfl (does_bin rfl rfl (fun w => (bin_lss w).trans (by rw [hb87]))) ?_
             intro a hA
             refine seq_do (v := .bool true) hA rfl rfl rfl (does_pick rfl rfl rfl rfl) ?_
             intro a hA
             refine seq_do hA rfl rfl rfl (does_move rfl) ?_
             intro a hA
             refine seq_do hA rfl rfl rfl (does_move rfl) ?_
             intro a hA
             refine seq_do hA rfl rfl rfl (does_move rfl) ?_
             intro a hA
             refine seq_do (v := .int .i64 (((i2 + 1 : Nat) : Int))) hA rfl rfl rfl (does_bin rfl rfl (ar_add ((in_i64 (by omega) (by omega)).trans (by omega)))) ?_
             intro a hA
             refine seq_do (v := .pointer (some ⟨gn, (i2 + 1) * 1, none⟩)) hA rfl rfl rfl (does_indexX Try.underlying74 (by kernel_rfl) rfl rfl rfl hgn (show i2 + 1 < q by omega)) ?_
             intro a hA
             obtain ⟨m9, hm9⟩ : ∃ m9 : Nat, hi2 (l.getD (0 + 2 * (i2 + 1)) 0).toNat (l.getD (0 + 2 * (i2 + 1) + 1) 0).toNat = m9 := ⟨_, rfl⟩
             have hltm9 : m9 < 65536 := hm9 ▸ hi2_lt _ _
             refine seq_do (v := .int .i32 (((m9 : Nat) : Int))) hA rfl rfl rfl (m_loadX hM 0 rfl hgn ((nums_at (g := hi2) (l := l) (f := 0) (n := q) (j := i2 + 1) (by omega)).trans (by rw [hm9])) CpF_is1_21 rfl) ?_
             intro a hA
             rcases Bool.eq_false_or_eq_true (decide (56320 ≤ ((m9 : Nat) : Int))) with hb88 | hb88
             · have hb88' := of_decide_eq_true hb88
               refine seq_do (v := .bool true) hA rfl rfl rfl (does_bin rfl rfl (fun w => (bin_geq w).trans (by rw [hb88]))) ?_
               intro a hA
               refine seq_do (v := .bool true) hA rfl rfl rfl (does_pick rfl rfl rfl rfl) ?_
               intro a hA
               refine seq_do hA rfl rfl rfl (does_move rfl) ?_
               intro a hA
               refine seq_do hA rfl rfl rfl (does_move rfl) ?_
               intro a hA
               refine seq_do hA rfl rfl rfl (does_move rfl) ?_
               intro a hA
               refine seq_do (v := .int .i64 (((i2 + 1 : Nat) : Int))) hA rfl rfl rfl (does_bin rfl rfl (ar_add ((in_i64 (by omega) (by omega)).trans (by omega)))) ?_
               intro a hA
               refine seq_do (v := .pointer (some ⟨gn, (i2 + 1) * 1, none⟩)) hA rfl rfl rfl (does_indexX Try.underlying74 (by kernel_rfl) rfl rfl rfl hgn (show i2 + 1 < q by omega)) ?_
               intro a hA
               refine seq_do (v := .int .i32 (((m9 : Nat) : Int))) hA rfl rfl rfl (m_loadX hM 0 rfl hgn ((nums_at (g := hi2) (l := l) (f := 0) (n := q) (j := i2 + 1) (by omega)).trans (by rw [hm9])) CpF_is1_21 rfl) ?_
               intro a hA
               rcases Bool.eq_false_or_eq_true (decide (((m9 : Nat) : Int) ≤ 57343)) with hb89 | hb89
               · have hb89' := of_decide_eq_true hb89
                 refine seq_do (v := .bool true) hA rfl rfl rfl (does_bin rfl rfl (fun w => (bin_leq w).trans (by rw [hb89]))) ?_
                 intro a hA
                 refine seq_do (v := .bool true) hA rfl rfl rfl (does_pick rfl rfl rfl rfl) ?_
                 intro a hA
                 refine seq_do hA rfl rfl rfl (does_assign rfl) ?_
                 intro a hA
                 refine seq_end ?_
                 refine hK85 _ _ ?_
                 refine wp_cond_true (hA.ev rfl) ?_
                 refine wp_seq_k (fun K90 hK90 => ?_)
                 refine wp_region_lit ?_
                 refine seq_do hA rfl rfl rfl (does_move rfl) ?_
                 intro a hA
                 refine seq_do hA rfl rfl rfl (does_move rfl) ?_
                 intro a hA
                 refine seq_do (v := .int .i32 (((n : Nat) : Int) - 55296)) hA rfl rfl rfl (does_bin rfl rfl (ar_sub (in_i32 (by omega) (by omega)))) ?_
                 intro a hA
                 refine seq_do (v := .int .i32 ((((n : Nat) : Int) - 55296) * 1024)) hA rfl rfl rfl (does_bin rfl rfl (ar_mul (in_i32 (by omega) (by omega)))) ?_
                 intro a hA
                 refine seq_do (v := .int .i32 (65536 + ((((n : Nat) : Int) - 55296) * 1024))) hA rfl rfl rfl (does_bin rfl rfl (ar_add (in_i32 (by omega) (by omega)))) ?_
                 intro a hA
                 refine seq_do hA rfl rfl rfl (does_move rfl) ?_
                 intro a hA
                 refine seq_do hA rfl rfl rfl (does_move rfl) ?_
                 intro a hA
                 refine seq_do (v := .int .i64 (((i2 + 1 : Nat) : Int))) hA rfl rfl rfl (does_bin rfl rfl (ar_add ((in_i64 (by omega) (by omega)).trans (by omega)))) ?_
                 intro a hA
                 refine seq_do (v := .pointer (some ⟨gn, (i2 + 1) * 1, none⟩)) hA rfl rfl rfl (does_indexX Try.underlying74 (by kernel_rfl) rfl rfl rfl hgn (show i2 + 1 < q by omega)) ?_
                 intro a hA
                 refine seq_do (v := .int .i32 (((m9 : Nat) : Int))) hA rfl rfl rfl (m_loadX hM 0 rfl hgn ((nums_at (g := hi2) (l := l) (f := 0) (n := q) (j := i2 + 1) (by omega)).trans (by rw [hm9])) CpF_is1_21 rfl) ?_
                 intro a hA
                 refine seq_do (v := .int .i32 (65536 + ((((n : Nat) : Int) - 55296) * 1024) + (((m9 : Nat) : Int)))) hA rfl rfl rfl (does_bin rfl rfl (ar_add (in_i32 (by omega) (by omega)))) ?_
                 intro a hA
                 refine seq_do (v := .int .i32 (65536 + ((((n : Nat) : Int) - 55296) * 1024) + (((m9 : Nat) : Int)) - 56320)) hA rfl rfl rfl (does_bin rfl rfl (ar_sub (in_i32 (by omega) (by omega)))) ?_
                 intro a hA
                 refine seq_do hA rfl rfl rfl (does_move rfl) ?_
                 intro a hA
                 refine seq_do (v := .agg #[.int .i32 (65536 + ((((n : Nat) : Int) - 55296) * 1024) + (((m9 : Nat) : Int)) - 56320), .bool false, .int .i64 (((0 + 2 * i2 : Nat) : Int))]) hA rfl rfl rfl (does_build rfl (fun w => by kernel_rfl)) ?_
                 intro a hA
                 refine s_litE (e := 78) (sz := 3) (m := 1) (vs := [.int .i32 (65536 + ((((n : Nat) : Int) - 55296) * 1024) + (((m9 : Nat) : Int)) - 56320), .bool false, .int .i64 (((0 + 2 * i2 : Nat) : Int))]) hA hM rfl rfl rfl (does_buildSlice rfl (by kernel_rfl)) rfl rfl (.inl (by decide)) ?_
                 intro g91 w92 hM a hA
                 refine s_appendE (e := 78) (sz := 3) (k := 2) (q := acc.length) (m := 1) (xs := (unitV acc)) (news := [.int .i32 (65536 + ((((n : Nat) : Int) - 55296) * 1024) + (((m9 : Nat) : Int)) - 56320), .bool false, .int .i64 (((0 + 2 * i2 : Nat) : Int))]) (L' := fun v93 => (.row 78 3 (.slice (some ⟨g91, 0, none⟩) 1 1) 1 ([.int .i32 (65536 + ((((n : Nat) : Int) - 55296) * 1024) + (((m9 : Nat) : Int)) - 56320), .bool false, .int .i64 (((0 + 2 * i2 : Nat) : Int))]) :: .row 21 1 (.slice sn q cn) q ((runeV (numsL hi2 l 0 q))) :: .row 78 3 (v93) (acc.length + 1) ((unitV acc) ++ [.int .i32 (65536 + ((((n : Nat) : Int) - 55296) * 1024) + (((m9 : Nat) : Int)) - 56320), .bool false, .int .i64 (((0 + 2 * i2 : Nat) : Int))]) :: [])) hA rfl rfl rfl (m_appendE (z := .agg #[.int .i32 0, .bool false, .int .i64 0]) (sz := 3) (by_ := 16) Try.underlying75 (by kernel_rfl) rfl rfl rfl hM 2 rfl rfl 0 rfl rfl rfl rfl (by omega)) (fun _ => rfl) ?_
                 intro v93 w94 hM a hA
                 refine seq_do hA rfl rfl rfl (does_assign rfl) ?_
                 intro a hA
                 refine seq_end ?_
                 refine hK90 _ _ ?_
                 refine wp_region_lit ?_
                 refine seq_do hA rfl rfl rfl (does_move rfl) ?_
                 intro a hA
                 refine seq_do (v := .int .i64 (((i2 + 1 : Nat) : Int))) hA rfl rfl rfl (does_bin rfl rfl (ar_add ((in_i64 (by omega) (by omega)).trans (by omega)))) ?_
                 intro a hA
                 refine seq_do hA rfl rfl rfl (does_assign rfl) ?_
                 intro a hA
                 refine seq_end ?_
                 refine hK71 _ _ ?_
                 refine wp_region_lit ?_
                 refine seq_do hA rfl rfl rfl (does_move rfl) ?_
                 intro a hA
                 refine seq_do (v := .int .i64 (((i2 + 1 + 1 : Nat) : Int))) hA rfl rfl rfl (does_bin rfl rfl (ar_add ((in_i64 (by omega) (by omega)).trans (by omega)))) ?_
                 intro a hA
                 refine seq_do hA rfl rfl rfl (does_assign rfl) ?_
                 intro a hA
                 refine seq_end ?_
                 replace hM : Mg w w94 (.row 21 1 (.slice sn q cn) q ((runeV (numsL hi2 l 0 q))) :: .row 78 3 (v93) ((acc ++ [(((0 + 2 * i2 : Nat) : Int), 65536 + ((((n : Nat) : Int) - 55296) * 1024) + (((m9 : Nat) : Int)) - 56320)]).length) ((unitV (acc ++ [(((0 + 2 * i2 : Nat) : Int), 65536 + ((((n : Nat) : Int) - 55296) * 1024) + (((m9 : Nat) : Int)) - 56320)]))) :: []) := by
                   have h9 := hM.sub (.cons _ (.cons_cons _ (.cons_cons _ (.refl _))))
                   rw [unitV_snoc_good (by omega), List.length_append]
                   exact h9
                 refine hK66 _ _ _ (by omega) ⟨i2 + 1 + 1, acc ++ [(((0 + 2 * i2 : Nat) : Int), 65536 + ((((n : Nat) : Int) - 55296) * 1024) + (((m9 : Nat) : Int)) - 56320)], v93, rfl, ⟨by rw [← hrun, pair_two (g := hi2) (l := l) (p := 0 + 2 * i2) (by omega) hn (show hi2 (l.getD (0 + 2 * i2 + 2) 0).toNat (l.getD (0 + 2 * i2 + 3) 0).toNat = m9 from hm9) (by omega) (by omega) (by omega) (by omega), show 0 + 2 * (i2 + 1 + 1) = 0 + 2 * i2 + 4 from by omega, List.append_assoc]; rfl, by omega, by rw [List.length_append]; simp only [List.length_cons, List.length_nil]; omega⟩, hA.keep _ ⟨rfl, rfl, rfl, rfl, rfl, rfl, rfl, rfl, rfl, rfl, rfl, rfl, rfl, rfl, rfl, rfl, rfl, rfl, rfl, rfl, rfl, rfl, rfl, rfl, rfl, rfl, rfl, rfl, rfl, rfl, rfl, rfl, rfl, rfl, rfl, rfl, rfl, rfl, rfl, rfl, rfl, rfl, rfl, rfl, trivial⟩, hM⟩
               · have hb89' := of_decide_eq_false hb89
                 refine seq_do (v := .bool false) hA rfl rfl rfl (does_bin rfl rfl (fun w => (bin_leq w).trans (by rw [hb89]))) ?_
                 intro a hA
                 refine seq_do (v := .bool false) hA rfl rfl rfl (does_pick rfl rfl rfl rfl) ?_
                 intro a hA
                 refine seq_do hA rfl rfl rfl (does_assign rfl) ?_
                 intro a hA
                 refine seq_end ?_
                 refine hK85 _ _ ?_
                 refine wp_cond_false (hA.ev rfl) ?_
                 refine wp_region_lit ?_
                 refine seq_do hA rfl rfl rfl (does_move rfl) ?_
                 intro a hA
                 refine seq_do hA rfl rfl rfl (does_move rfl) ?_
                 intro a hA
                 refine seq_do (v := .agg #[.int .i32 0, .bool true, .int .i64 (((0 + 2 * i2 : Nat) : Int))]) hA rfl rfl rfl (does_build rfl (fun w => by kernel_rfl)) ?_
                 intro a hA
                 refine s_litE (e := 78) (sz := 3) (m := 1) (vs := [.int .i32 0, .bool true, .int .i64 (((0 + 2 * i2 : Nat) : Int))]) hA hM rfl rfl rfl (does_buildSlice rfl (by kernel_rfl)) rfl rfl (.inl (by decide)) ?_
                 intro g95 w96 hM a hA
                 refine s_appendE (e := 78) (sz := 3) (k := 2) (q := acc.length) (m := 1) (xs := (unitV acc)) (news := [.int .i32 0, .bool true, .int .i64 (((0 + 2 * i2 : Nat) : Int))]) (L' := fun v97 => (.row 78 3 (.slice (some ⟨g95, 0, none⟩) 1 1) 1 ([.int .i32 0, .bool true, .int .i64 (((0 + 2 * i2 : Nat) : Int))]) :: .row 21 1 (.slice sn q cn) q ((runeV (numsL hi2 l 0 q))) :: .row 78 3 (v97) (acc.length + 1) ((unitV acc) ++ [.int .i32 0, .bool true, .int .i64 (((0 + 2 * i2 : Nat) : Int))]) :: [])) hA rfl rfl rfl (m_appendE (z := .agg #[.int .i32 0, .bool false, .int .i64 0]) (sz := 3) (by_ := 16) Try.underlying75 (by kernel_rfl) rfl rfl rfl hM 2 rfl rfl 0 rfl rfl rfl rfl (by omega)) (fun _ => rfl) ?_
                 intro v97 w98 hM a hA
                 refine seq_do hA rfl rfl rfl (does_assign rfl) ?_
                 intro a hA
                 refine seq_end ?_
                 refine hK71 _ _ ?_
                 refine wp_region_lit ?_
                 refine seq_do hA rfl rfl rfl (does_move rfl) ?_
                 intro a hA
                 refine seq_do (v := .int .i64 (((i2 + 1 : Nat) : Int))) hA rfl rfl rfl (does_bin rfl rfl (ar_add ((in_i64 (by omega) (by omega)).trans (by omega)))) ?_
                 intro a hA
                 refine seq_do hA rfl rfl rfl (does_assign rfl) ?_
                 intro a hA
                 refine seq_end ?_
                 replace hM : Mg w w98 (.row 21 1 (.slice sn q cn) q ((runeV (numsL hi2 l 0 q))) :: .row 78 3 (v97) ((acc ++ [(((0 + 2 * i2 : Nat) : Int), -1)]).length) ((unitV (acc ++ [(((0 + 2 * i2 : Nat) : Int), -1)]))) :: []) := by
                   have h9 := hM.sub (.cons _ (.cons_cons _ (.cons_cons _ (.refl _))))
                   rw [unitV_snoc_bad, List.length_append]
                   exact h9
                 refine hK66 _ _ _ (by omega) ⟨i2 + 1, acc ++ [(((0 + 2 * i2 : Nat) : Int), -1)], v97, rfl, ⟨by rw [← hrun, pair_bad (g := hi2) (l := l) (p := 0 + 2 * i2) (by omega) hn (by omega) (by omega) (fun _ _ => by rw [show hi2 (l.getD (0 + 2 * i2 + 2) 0).toNat (l.getD (0 + 2 * i2 + 3) 0).toNat = m9 from hm9]; omega), show 0 + 2 * (i2 + 1) = 0 + 2 * i2 + 2 from by omega, List.append_assoc]; rfl, by omega, by rw [List.length_append]; simp only [List.length_cons, List.length_nil]; omega⟩, hA.keep _ ⟨rfl, rfl, rfl, rfl, rfl, rfl, rfl, rfl, rfl, rfl, rfl, rfl, rfl, rfl, rfl, rfl, rfl, rfl, rfl, rfl, rfl, rfl, rfl, rfl, rfl, rfl, rfl, rfl, rfl, rfl, rfl, rfl, rfl, rfl, rfl, rfl, rfl, rfl, rfl, rfl, rfl, rfl, rfl, rfl, trivial⟩, hM⟩
             · have hb88' := of_decide_eq_false hb88
               refine seq_do (v := .bool false) hA rfl rfl rfl (does_bin rfl rfl (fun w => (bin_geq w).trans (by rw [hb88]))) ?_
               intro a hA
               refine seq_do (v := .bool false) hA rfl rfl rfl (does_pick rfl rfl rfl rfl) ?_
               intro a hA
               refine seq_do hA rfl rfl rfl (does_move rfl) ?_
               intro a hA
               refine seq_skip hA rfl rfl rfl ?_
               intro a hA
               refine seq_skip hA rfl rfl rfl ?_
               intro a hA
               refine seq_skip hA rfl rfl rfl ?_
               intro a hA
               refine seq_skip hA rfl rfl rfl ?_
               intro a hA
               refine seq_skip hA rfl rfl rfl ?_
               intro a hA
               refine seq_skip hA rfl rfl rfl ?_
               intro a hA
               refine seq_do (v := .bool false) hA rfl rfl rfl (does_pick rfl rfl rfl rfl) ?_
               intro a hA
               refine seq_do hA rfl rfl rfl (does_assign rfl) ?_
               intro a hA
               refine seq_end ?_
               refine hK85 _ _ ?_
               refine wp_cond_false (hA.ev rfl) ?_
               refine wp_region_lit ?_
               refine seq_do hA rfl rfl rfl (does_move rfl) ?_
               intro a hA
               refine seq_do hA rfl rfl rfl (does_move rfl) ?_
               intro a hA
               refine seq_do (v := .agg #[.int .i32 0, .bool true, .int .i64 (((0 + 2 * i2 : Nat) : Int))]) hA rfl rfl rfl (does_build rfl (fun w => by kernel_rfl)) ?_
               intro a hA
               refine s_litE (e := 78) (sz := 3) (m := 1) (vs := [.int .i32 0, .bool true, .int .i64 (((0 + 2 * i2 : Nat) : Int))]) hA hM rfl rfl rfl (does_buildSlice rfl (by kernel_rfl)) rfl rfl (.inl (by decide)) ?_
               intro g99 w100 hM a hA
               refine s_appendE (e := 78) (sz := 3) (k := 2) (q := acc.length) (m := 1) (xs := (unitV acc)) (news := [.int .i32 0, .bool true, .int .i64 (((0 + 2 * i2 : Nat) : Int))]) (L' := fun v101 => (.row 78 3 (.slice (some ⟨g99, 0, none⟩) 1 1) 1 ([.int .i32 0, .bool true, .int .i64 (((0 + 2 * i2 : Nat) : Int))]) :: .row 21 1 (.slice sn q cn) q ((runeV (numsL hi2 l 0 q))) :: .row 78 3 (v101) (acc.length + 1) ((unitV acc) ++ [.int .i32 0, .bool true, .int .i64 (((0 + 2 * i2 : Nat) : Int))]) :: [])) hA rfl rfl rfl (m_appendE (z := .agg #[.int .i32 0, .bool false, .int .i64 0]) (sz := 3) (by_ := 16) Try.underlying75 (by kernel_rfl) rfl rfl rfl hM 2 rfl rfl 0 rfl rfl rfl rfl (by omega)) (fun _ => rfl) ?_
               intro v101 w102 hM a hA
               refine seq_do hA rfl rfl rfl (does_assign rfl) ?_
               intro a hA
               refine seq_end ?_
               refine hK71 _ _ ?_
               refine wp_region_lit ?_
               refine seq_do hA rfl rfl rfl (does_move rfl) ?_
               intro a hA
               refine seq_do (v := .int .i64 (((i2 + 1 : Nat) : Int))) hA rfl rfl rfl (does_bin rfl rfl (ar_add ((in_i64 (by omega) (by omega)).trans (by omega)))) ?_
               intro a hA
               refine seq_do hA rfl rfl rfl (does_assign rfl) ?_
               intro a hA
               refine seq_end ?_
               replace hM : Mg w w102 (.row 21 1 (.slice sn q cn) q ((runeV (numsL hi2 l 0 q))) :: .row 78 3 (v101) ((acc ++ [(((0 + 2 * i2 : Nat) : Int), -1)]).length) ((unitV (acc ++ [(((0 + 2 * i2 : Nat) : Int), -1)]))) :: []) := by
                 have h9 := hM.sub (.cons _ (.cons_cons _ (.cons_cons _ (.refl _))))
                 rw [unitV_snoc_bad, List.length_append]
                 exact h9
               refine hK66 _ _ _ (by omega) ⟨i2 + 1, acc ++ [(((0 + 2 * i2 : Nat) : Int), -1)], v101, rfl, ⟨by rw [← hrun, pair_bad (g := hi2) (l := l) (p := 0 + 2 * i2) (by omega) hn (by omega) (by omega) (fun _ _ => by rw [show hi2 (l.getD (0 + 2 * i2 + 2) 0).toNat (l.getD (0 + 2 * i2 + 3) 0).toNat = m9 from hm9]; omega), show 0 + 2 * (i2 + 1) = 0 + 2 * i2 + 2 from by omega, List.append_assoc]; rfl, by omega, by rw [List.length_append]; simp only [List.length_cons, List.length_nil]; omega⟩, hA.keep _ ⟨rfl, rfl, rfl, rfl, rfl, rfl, rfl, rfl, rfl, rfl, rfl, rfl, rfl, rfl, rfl, rfl, rfl, rfl, rfl, rfl, rfl, rfl, rfl, rfl, rfl, rfl, rfl, rfl, rfl, rfl, rfl, rfl, rfl, rfl, rfl, rfl, rfl, rfl, rfl, rfl, rfl, rfl, rfl, rfl, trivial⟩, hM⟩
           · have hb87' := of_decide_eq_false hb87
             refine seq_do (v := .bool false) hA rfl rfl rfl (does_bin rfl rfl (fun w => (bin_lss w).trans (by rw [hb87]))) ?_
             intro a hA
             refine seq_do (v := .bool false) hA rfl rfl rfl (does_pick rfl rfl rfl rfl) ?_
             intro a hA
             refine seq_do hA rfl rfl rfl (does_move rfl) ?_
             intro a hA
             refine seq_skip hA rfl rfl rfl ?_
             intro a hA
             refine seq_skip hA rfl rfl rfl ?_
             intro a hA
             refine seq_skip hA rfl rfl rfl ?_
             intro a hA
             refine seq_skip hA rfl rfl rfl ?_
             intro a hA
             refine seq_skip hA rfl rfl rfl ?_
             intro a hA
             refine seq_skip hA rfl rfl rfl ?_
             intro a hA
             refine seq_do (v := .bool false) hA rfl rfl rfl (does_pick rfl rfl rfl rfl) ?_
             intro a hA
             refine seq_do hA rfl rfl rfl (does_move rfl) ?_
             intro a hA
             refine seq_skip hA rfl rfl rfl ?_
             intro a hA
             refine seq_skip hA rfl rfl rfl ?_
             intro a hA
             refine seq_skip hA rfl rfl rfl ?_
             intro a hA
             refine seq_skip hA rfl rfl rfl ?_
             intro a hA
             refine seq_skip hA rfl rfl rfl ?_
             intro a hA
             refine seq_skip hA rfl rfl rfl ?_
             intro a hA
             refine seq_do (v := .bool false) hA rfl rfl rfl (does_pick rfl rfl rfl rfl) ?_
             intro a hA
             refine seq_do hA rfl rfl rfl (does_assign rfl) ?_
             intro a hA
             refine seq_end ?_
             refine hK85 _ _ ?_
             refine wp_cond_false (hA.ev rfl) ?_
             refine wp_region_lit ?_
             refine seq_do hA rfl rfl rfl (does_move rfl) ?_
             intro a hA
             refine seq_do hA rfl rfl rfl (does_move rfl) ?_
             intro a hA
             refine seq_do (v := .agg #[.int .i32 0, .bool true, .int .i64 (((0 + 2 * i2 : Nat) : Int))]) hA rfl rfl rfl (does_build rfl (fun w => by kernel_rfl)) ?_
             intro a hA
             refine s_litE (e := 78) (sz := 3) (m := 1) (vs := [.int .i32 0, .bool true, .int .i64 (((0 + 2 * i2 : Nat) : Int))]) hA hM rfl rfl rfl (does_buildSlice rfl (by kernel_rfl)) rfl rfl (.inl (by decide)) ?_
             intro g103 w104 hM a hA
             refine s_appendE (e := 78) (sz := 3) (k := 2) (q := acc.length) (m := 1) (xs := (unitV acc)) (news := [.int .i32 0, .bool true, .int .i64 (((0 + 2 * i2 : Nat) : Int))]) (L' := fun v105 => (.row 78 3 (.slice (some ⟨g103, 0, none⟩) 1 1) 1 ([.int .i32 0, .bool true, .int .i64 (((0 + 2 * i2 : Nat) : Int))]) :: .row 21 1 (.slice sn q cn) q ((runeV (numsL hi2 l 0 q))) :: .row 78 3 (v105) (acc.length + 1) ((unitV acc) ++ [.int .i32 0, .bool true, .int .i64 (((0 + 2 * i2 : Nat) : Int))]) :: [])) hA rfl rfl rfl (m_appendE (z := .agg #[.int .i32 0, .bool false, .int .i64 0]) (sz := 3) (by_ := 16) Try.underlying75 (by kernel_rfl) rfl rfl rfl hM 2 rfl rfl 0 rfl rfl rfl rfl (by omega)) (fun _ => rfl) ?_
             intro v105 w106 hM a hA
             refine seq_do hA rfl rfl rfl (does_assign rfl) ?_
             intro a hA
             refine seq_end ?_
             refine hK71 _ _ ?_
             refine wp_region_lit ?_
             refine seq_do hA rfl rfl rfl (does_move rfl) ?_
             intro a hA
             refine seq_do (v := .int .i64 (((i2 + 1 : Nat) : Int))) hA rfl rfl rfl (does_bin rfl rfl (ar_add ((in_i64 (by omega) (by omega)).trans (by omega)))) ?_
             intro a hA
             refine seq_do hA rfl rfl rfl (does_assign rfl) ?_
             intro a hA
             refine seq_end ?_
             replace hM : Mg w w106 (.row 21 1 (.slice sn q cn) q ((runeV (numsL hi2 l 0 q))) :: .row 78 3 (v105) ((acc ++ [(((0 + 2 * i2 : Nat) : Int), -1)]).length) ((unitV (acc ++ [(((0 + 2 * i2 : Nat) : Int), -1)]))) :: []) := by
               have h9 := hM.sub (.cons _ (.cons_cons _ (.cons_cons _ (.refl _))))
               rw [unitV_snoc_bad, List.length_append]
               exact h9
             refine hK66 _ _ _ (by omega) ⟨i2 + 1, acc ++ [(((0 + 2 * i2 : Nat) : Int), -1)], v105, rfl, ⟨by rw [← hrun, pair_bad (g := hi2) (l := l) (p := 0 + 2 * i2) (by omega) hn (by omega) (by omega) (fun _ _ => by exfalso; omega), show 0 + 2 * (i2 + 1) = 0 + 2 * i2 + 2 from by omega, List.append_assoc]; rfl, by omega, by rw [List.length_append]; simp only [List.length_cons, List.length_nil]; omega⟩, hA.keep _ ⟨rfl, rfl, rfl, rfl, rfl, rfl, rfl, rfl, rfl, rfl, rfl, rfl, rfl, rfl, rfl, rfl, rfl, rfl, rfl, rfl, rfl, rfl, rfl, rfl, rfl, rfl, rfl, rfl, rfl, rfl, rfl, rfl, rfl, rfl, rfl, rfl, rfl, rfl, rfl, rfl, rfl, rfl, rfl, rfl, trivial⟩, hM⟩
         · have hb86' := of_decide_eq_false hb86
           refine seq_do (v := .bool false) hA rfl rfl rfl (does_bin rfl rfl (fun w => (bin_leq w).trans (by rw [hb86]))) ?_
           intro a hA
           refine seq_do hA rfl rfl rfl (does_move rfl) ?_
           intro a hA
           refine seq_skip hA rfl rfl rfl ?_
           intro a hA
           refine seq_skip hA rfl rfl rfl ?_
           intro a hA
           refine seq_skip hA rfl rfl rfl ?_
           intro a hA
           refine seq_skip hA rfl rfl rfl ?_
           intro a hA
           refine seq_skip hA rfl rfl rfl ?_
           intro a hA
           refine seq_do (v := .bool false) hA rfl rfl rfl (does_pick rfl rfl rfl rfl) ?_
           intro a hA
           refine seq_do hA rfl rfl rfl (does_move rfl) ?_
           intro a hA
           refine seq_skip hA rfl rfl rfl ?_
           intro a hA
           refine seq_skip hA rfl rfl rfl ?_
           intro a hA
           refine seq_skip hA rfl rfl rfl ?_
           intro a hA
           refine seq_skip hA rfl rfl rfl ?_
           intro a hA
           refine seq_skip hA rfl rfl rfl ?_
           intro a hA
           refine seq_skip hA rfl rfl rfl ?_
           intro a hA
           refine seq_do (v := .bool false) hA rfl rfl rfl (does_pick rfl rfl rfl rfl) ?_
           intro a hA
           refine seq_do hA rfl rfl rfl (does_move rfl) ?_
           intro a hA
           refine seq_skip hA rfl rfl rfl ?_
           intro a hA
           refine seq_skip hA rfl rfl rfl ?_
           intro a hA
           refine seq_skip hA rfl rfl rfl ?_
           intro a hA
           refine seq_skip hA rfl rfl rfl ?_
           intro a hA
           refine seq_skip hA rfl rfl rfl ?_
           intro a hA
           refine seq_skip hA rfl rfl rfl ?_
           intro a hA
           refine seq_do (v := .bool false) hA rfl rfl rfl (does_pick rfl rfl rfl rfl) ?_
           intro a hA
           refine seq_do hA rfl rfl rfl (does_assign rfl) ?_
           intro a hA
           refine seq_end ?_
           refine hK85 _ _ ?_
           refine wp_cond_false (hA.ev rfl) ?_
           refine wp_region_lit ?_
           refine seq_do hA rfl rfl rfl (does_move rfl) ?_
           intro a hA
           refine seq_do hA rfl rfl rfl (does_move rfl) ?_
           intro a hA
           refine seq_do (v := .agg #[.int .i32 0, .bool true, .int .i64 (((0 + 2 * i2 : Nat) : Int))]) hA rfl rfl rfl (does_build rfl (fun w => by kernel_rfl)) ?_
           intro a hA
           refine s_litE (e := 78) (sz := 3) (m := 1) (vs := [.int .i32 0, .bool true, .int .i64 (((0 + 2 * i2 : Nat) : Int))]) hA hM rfl rfl rfl (does_buildSlice rfl (by kernel_rfl)) rfl rfl (.inl (by decide)) ?_
           intro g107 w108 hM a hA
           refine s_appendE (e := 78) (sz := 3) (k := 2) (q := acc.length) (m := 1) (xs := (unitV acc)) (news := [.int .i32 0, .bool true, .int .i64 (((0 + 2 * i2 : Nat) : Int))]) (L' := fun v109 => (.row 78 3 (.slice (some ⟨g107, 0, none⟩) 1 1) 1 ([.int .i32 0, .bool true, .int .i64 (((0 + 2 * i2 : Nat) : Int))]) :: .row 21 1 (.slice sn q cn) q ((runeV (numsL hi2 l 0 q))) :: .row 78 3 (v109) (acc.length + 1) ((unitV acc) ++ [.int .i32 0, .bool true, .int .i64 (((0 + 2 * i2 : Nat) : Int))]) :: [])) hA rfl rfl rfl (m_appendE (z := .agg #[.int .i32 0, .bool false, .int .i64 0]) (sz := 3) (by_ := 16) Try.underlying75 (by kernel_rfl) rfl rfl rfl hM 2 rfl rfl 0 rfl rfl rfl rfl (by omega)) (fun _ => rfl) ?_
           intro v109 w110 hM a hA
           refine seq_do hA rfl rfl rfl (does_assign rfl) ?_
           intro a hA
           refine seq_end ?_
           refine hK71 _ _ ?_
           refine wp_region_lit ?_
           refine seq_do hA rfl rfl rfl (does_move rfl) ?_
           intro a hA
           refine seq_do (v := .int .i64 (((i2 + 1 : Nat) : Int))) hA rfl rfl rfl (does_bin rfl rfl (ar_add ((in_i64 (by omega) (by omega)).trans (by omega)))) ?_
           intro a hA
           refine seq_do hA rfl rfl rfl (does_assign rfl) ?_
           intro a hA
           refine seq_end ?_
           replace hM : Mg w w110 (.row 21 1 (.slice sn q cn) q ((runeV (numsL hi2 l 0 q))) :: .row 78 3 (v109) ((acc ++ [(((0 + 2 * i2 : Nat) : Int), -1)]).length) ((unitV (acc ++ [(((0 + 2 * i2 : Nat) : Int), -1)]))) :: []) := by
             have h9 := hM.sub (.cons _ (.cons_cons _ (.cons_cons _ (.refl _))))
             rw [unitV_snoc_bad, List.length_append]
             exact h9
           refine hK66 _ _ _ (by omega) ⟨i2 + 1, acc ++ [(((0 + 2 * i2 : Nat) : Int), -1)], v109, rfl, ⟨by rw [← hrun, pair_bad (g := hi2) (l := l) (p := 0 + 2 * i2) (by omega) hn (by omega) (by omega) (fun _ _ => by exfalso; omega), show 0 + 2 * (i2 + 1) = 0 + 2 * i2 + 2 from by omega, List.append_assoc]; rfl, by omega, by rw [List.length_append]; simp only [List.length_cons, List.length_nil]; omega⟩, hA.keep _ ⟨rfl, rfl, rfl, rfl, rfl, rfl, rfl, rfl, rfl, rfl, rfl, rfl, rfl, rfl, rfl, rfl, rfl, rfl, rfl, rfl, rfl, rfl, rfl, rfl, rfl, rfl, rfl, rfl, rfl, rfl, rfl, rfl, rfl, rfl, rfl, rfl, rfl, rfl, rfl, rfl, rfl, rfl, rfl, rfl, trivial⟩, hM⟩
   · have hb70' := of_decide_eq_false hb70
     refine seq_do (v := .bool false) hA rfl rfl rfl (does_bin rfl rfl (fun w => (bin_lss w).trans (by rw [hb70]))) ?_
     intro a hA
     refine seq_end ?_
     refine hK69 _ _ ?_
     refine wp_cond_false (hA.ev rfl) ?_
     refine wp_exit ?_
     refine hK63 _ _ ?_
     refine wp_seq_k (fun K111 hK111 => ?_)
     refine wp_seq_k (fun K112 hK112 => ?_)
     refine wp_region_lit ?_
     refine seq_do hA rfl rfl rfl (does_move rfl) ?_
     intro a hA
     refine seq_do (v := .int .i64 (((l.length : Nat) : Int))) hA rfl rfl rfl (does_len Try.underlying24 rfl) ?_
     intro a hA
     refine seq_do hA rfl rfl rfl (does_move rfl) ?_
     intro a hA
     refine seq_do (v := .int .i64 ((((l.length) - 0 : Nat) : Int))) hA rfl rfl rfl (does_bin rfl rfl (ar_sub ((in_i64 (by omega) (by omega)).trans (by omega)))) ?_
     intro a hA
     refine seq_do (v := .int .i64 (((((l.length) - 0) % 2 : Nat) : Int))) hA rfl rfl rfl (does_bin rfl rfl (ar_rem (by decide) ((Int.tmod_eq_emod_of_nonneg (by omega)).trans (by omega)))) ?_
     intro a hA
     rcases Bool.eq_false_or_eq_true ((((((l.length) - 0) % 2 : Nat) : Int) == 1)) with hb113 | hb113
     · have hb113' := eq_of_beq hb113
       refine seq_do (v := .bool true) hA rfl rfl rfl (does_bin rfl rfl (fun w => (bin_eql w).trans (by rw [hb113]))) ?_
       intro a hA
       refine seq_end ?_
       refine hK112 _ _ ?_
       refine wp_cond_true (hA.ev rfl) ?_
       refine wp_region_lit ?_
       refine seq_do hA rfl rfl rfl (does_move rfl) ?_
       intro a hA
       refine seq_do hA rfl rfl rfl (does_move rfl) ?_
       intro a hA
       refine seq_do (v := .int .i64 (((l.length : Nat) : Int))) hA rfl rfl rfl (does_len Try.underlying24 rfl) ?_
       intro a hA
       refine seq_do (v := .int .i64 ((((l.length) - 1 : Nat) : Int))) hA rfl rfl rfl (does_bin rfl rfl (ar_sub ((in_i64 (by omega) (by omega)).trans (by omega)))) ?_
       intro a hA
       refine seq_do (v := .agg #[.int .i32 0, .bool true, .int .i64 ((((l.length) - 1 : Nat) : Int))]) hA rfl rfl rfl (does_build rfl (fun w => by kernel_rfl)) ?_
       intro a hA
       refine s_litE (e := 78) (sz := 3) (m := 1) (vs := [.int .i32 0, .bool true, .int .i64 ((((l.length) - 1 : Nat) : Int))]) hA hM rfl rfl rfl (does_buildSlice rfl (by kernel_rfl)) rfl rfl (.inl (by decide)) ?_
       intro g114 w115 hM a hA
       refine s_appendE (e := 78) (sz := 3) (k := 2) (q := acc.length) (m := 1) (xs := (unitV acc)) (news := [.int .i32 0, .bool true, .int .i64 ((((l.length) - 1 : Nat) : Int))]) (L' := fun v116 => (.row 78 3 (.slice (some ⟨g114, 0, none⟩) 1 1) 1 ([.int .i32 0, .bool true, .int .i64 ((((l.length) - 1 : Nat) : Int))]) :: .row 21 1 (.slice sn q cn) q ((runeV (numsL hi2 l 0 q))) :: .row 78 3 (v116) (acc.length + 1) ((unitV acc) ++ [.int .i32 0, .bool true, .int .i64 ((((l.length) - 1 : Nat) : Int))]) :: [])) hA rfl rfl rfl (m_appendE (z := .agg #[.int .i32 0, .bool false, .int .i64 0]) (sz := 3) (by_ := 16) Try.underlying75 (by kernel_rfl) rfl rfl rfl hM 2 rfl rfl 0 rfl rfl rfl rfl (by omega)) (fun _ => rfl) ?_
       intro v116 w117 hM a hA
       refine seq_do hA rfl rfl rfl (does_assign rfl) ?_
       intro a hA
       refine seq_end ?_
       refine hK111 _ _ ?_
       refine wp_seq_k (fun K118 hK118 => ?_)
       refine wp_region_lit ?_
       refine seq_do hA rfl rfl rfl (does_move rfl) ?_
       intro a hA
       refine seq_do hA rfl rfl rfl (does_assign rfl) ?_
       intro a hA
       refine seq_end ?_
       refine hK118 _ _ ?_
       refine wp_ret ?_
       refine hret _ _ ?_
       refine ends (v := v116) hA rfl (.cons (res_tmp rfl) .nil) rfl ?_
       replace hM : Mg w w117 (.row 21 1 (.slice sn q cn) q ((runeV (numsL hi2 l 0 q))) :: .row 78 3 (v116) ((acc ++ [((((l.length) - 1 : Nat) : Int), -1)]).length) ((unitV (acc ++ [((((l.length) - 1 : Nat) : Int), -1)]))) :: []) := by
         have h9 := hM.sub (.cons _ (.cons_cons _ (.cons_cons _ (.refl _))))
         rw [unitV_snoc_bad, List.length_append]
         exact h9
       have he9 := pair_end (g := hi2) (l := l) (p := 0 + 2 * i2) (by omega)
       rw [he9, show ((0 + 2 * i2 : Nat) : Int) = (((l.length) - 1 : Nat) : Int) from by omega] at hrun
       rw [← hrun]
       exact ⟨_, rfl, hM.sub (.cons _ (.cons_cons _ (.refl _)))⟩
     · have hb113' := ne_of_beq_false hb113
       refine seq_do (v := .bool false) hA rfl rfl rfl (does_bin rfl rfl (fun w => (bin_eql w).trans (by rw [hb113]))) ?_
       intro a hA
       refine seq_end ?_
       refine hK112 _ _ ?_
       refine wp_cond_false (hA.ev rfl) ?_
       refine wp_skip ?_
       refine hK111 _ _ ?_
       refine wp_seq_k (fun K119 hK119 => ?_)
       refine wp_region_lit ?_
       refine seq_do hA rfl rfl rfl (does_move rfl) ?_
       intro a hA
       refine seq_do hA rfl rfl rfl (does_assign rfl) ?_
       intro a hA
       refine seq_end ?_
       refine hK119 _ _ ?_
       refine wp_ret ?_
       refine hret _ _ ?_
       refine ends (v := vo) hA rfl (.cons (res_tmp rfl) .nil) rfl ?_
       rw [restW_over (by omega), List.append_nil] at hrun
       subst hrun
       exact ⟨_, rfl, hM.sub (.cons _ (.cons_cons _ (.refl _)))⟩
set_option maxHeartbeats 4000000 in
theorem rutf16_p5 {w : World} {so : Option Addr} {cap : Nat} {l : List UInt8} (hb : Rb w so l) (hlen : l.length ≤ 1000000) (klen : (decide (2 ≤ ((l.length : Nat) : Int))) = true) (ka : (((((l.getD (0) 0).toNat : Nat) : Int) == 254)) = false) (kc : (((((l.getD (0) 0).toNat : Nat) : Int) == 255)) = false) : Calls Try.prog 71 #[.slice so l.length cap] w fun e w' => ∃ v, e = .returned v ∧ Mg w w' [.row 78 3 v (unitsW l).length (unitV (unitsW l))] := by
 have klen' := of_decide_eq_true klen
 have ka' := ne_of_beq_false ka
 have kc' := ne_of_beq_false kc
 have hM : Mg w w ([]) := Mg.start w
 refine walk_of (l := [(0, .slice so l.length cap)]) Try.func71 rfl Try.ntmps71 rfl rfl ?_
 intro Q hret hnorm hP a hA
 refine wp_seq_k (fun K1 hK1 => ?_)
 refine wp_region_lit ?_
 refine seq_do hA rfl rfl rfl (does_assign rfl) ?_
 intro a hA
 refine seq_end ?_
 refine hK1 _ _ ?_
 refine wp_seq_k (fun K2 hK2 => ?_)
 refine wp_region_lit ?_
 refine s_litE (e := 78) (sz := 3) (m := 0) (vs := []) hA hM rfl rfl rfl (does_buildSlice rfl (by kernel_rfl)) rfl rfl (.inl (by decide)) ?_
 intro g3 w4 hM a hA
 refine seq_do hA rfl rfl rfl (does_assign rfl) ?_
 intro a hA
 refine seq_end ?_
 refine hK2 _ _ ?_
 refine wp_seq_k (fun K5 hK5 => ?_)
 refine wp_region_lit ?_
 refine seq_do hA rfl rfl rfl (does_assign rfl) ?_
 intro a hA
 refine seq_end ?_
 refine hK5 _ _ ?_
 refine wp_seq_k (fun K6 hK6 => ?_)
 refine wp_region_lit ?_
 refine seq_do hA rfl rfl rfl (does_assign rfl) ?_
 intro a hA
 refine seq_end ?_
 refine hK6 _ _ ?_
 refine wp_seq_k (fun K7 hK7 => ?_)
 refine wp_seq_k (fun K8 hK8 => ?_)
 refine wp_region_lit ?_
 refine seq_do hA rfl rfl rfl (does_move rfl) ?_
 intro a hA
 refine seq_do (v := .int .i64 (((l.length : Nat) : Int))) hA rfl rfl rfl (does_len Try.underlying24 rfl) ?_
 intro a hA
 refine seq_do (v := .bool true) hA rfl rfl rfl (does_bin rfl rfl (fun w => (bin_geq w).trans (by rw [show (decide (2 ≤ ((l.length : Nat) : Int))) = true from klen]))) ?_
 intro a hA
 refine seq_do hA rfl rfl rfl (does_move rfl) ?_
 intro a hA
 refine seq_do hA rfl rfl rfl (does_move rfl) ?_
 intro a hA
 obtain ⟨bx9, ox10, hxa11, hxb12, hxc13⟩ := rb_open (i := 0) hb (by omega)
 refine seq_do (v := .pointer (some ⟨bx9, ox10 + (0), none⟩)) hA rfl rfl rfl (does_indexRow Try.underlying24 (by kernel_rfl) rfl rfl rfl hxa11 (show 0 < l.length by omega)) ?_
 intro a hA
 refine seq_do (v := .int .u8 ((((l.getD (0) 0).toNat : Nat) : Int))) hA rfl rfl rfl (m_loadR hM hxb12 (hxc13 (0) (by omega)) CpF_is1_5 rfl) ?_
 intro a hA
 have hu14 := (l.getD (0) 0).toNat_lt
 refine seq_do (v := .bool false) hA rfl rfl rfl (does_bin rfl rfl (fun w => (bin_eql w).trans (by rw [show (((((l.getD (0) 0).toNat : Nat) : Int) == 254)) = false from ka]))) ?_
 intro a hA
 refine seq_do (v := .bool false) hA rfl rfl rfl (does_pick rfl rfl rfl rfl) ?_
 intro a hA
 refine seq_do hA rfl rfl rfl (does_move rfl) ?_
 intro a hA
 refine seq_skip hA rfl rfl rfl ?_
 intro a hA
 refine seq_skip hA rfl rfl rfl ?_
 intro a hA
 refine seq_skip hA rfl rfl rfl ?_
 intro a hA
 refine seq_skip hA rfl rfl rfl ?_
 intro a hA
 refine seq_do (v := .bool false) hA rfl rfl rfl (does_pick rfl rfl rfl rfl) ?_
 intro a hA
 refine seq_end ?_
 refine hK8 _ _ ?_
 refine wp_cond_false (hA.ev rfl) ?_
 refine wp_skip ?_
 refine hK7 _ _ ?_
 refine wp_seq_k (fun K15 hK15 => ?_)
 refine wp_seq_k (fun K16 hK16 => ?_)
 refine wp_region_lit ?_
 refine seq_do hA rfl rfl rfl (does_move rfl) ?_
 intro a hA
 refine seq_do (v := .int .i64 (((l.length : Nat) : Int))) hA rfl rfl rfl (does_len Try.underlying24 rfl) ?_
 intro a hA
 refine seq_do (v := .bool true) hA rfl rfl rfl (does_bin rfl rfl (fun w => (bin_geq w).trans (by rw [show (decide (2 ≤ ((l.length : Nat) : Int))) = true from klen]))) ?_
 intro a hA
 refine seq_do hA rfl rfl rfl (does_move rfl) ?_
 intro a hA
 refine seq_do hA rfl rfl rfl (does_move rfl) ?_
 intro a hA
 obtain ⟨bx17, ox18, hxa19, hxb20, hxc21⟩ := rb_open (i := 0) hb (by omega)
 refine seq_do (v := .pointer (some ⟨bx17, ox18 + (0), none⟩)) hA rfl rfl rfl (does_indexRow Try.underlying24 (by kernel_rfl) rfl rfl rfl hxa19 (show 0 < l.length by omega)) ?_
 intro a hA
 refine seq_do (v := .int .u8 ((((l.getD (0) 0).toNat : Nat) : Int))) hA rfl rfl rfl (m_loadR hM hxb20 (hxc21 (0) (by omega)) CpF_is1_5 rfl) ?_
 intro a hA
 have hu22 := (l.getD (0) 0).toNat_lt
 refine seq_do (v := .bool false) hA rfl rfl rfl (does_bin rfl rfl (fun w => (bin_eql w).trans (by rw [show (((((l.getD (0) 0).toNat : Nat) : Int) == 255)) = false from kc]))) ?_
 intro a hA
 refine seq_do (v := .bool false) hA rfl rfl rfl (does_pick rfl rfl rfl rfl) ?_
 intro a hA
 refine seq_do hA rfl rfl rfl (does_move rfl) ?_
 intro a hA
 refine seq_skip hA rfl rfl rfl ?_
 intro a hA
 refine seq_skip hA rfl rfl rfl ?_
 intro a hA
 refine seq_skip hA rfl rfl rfl ?_
 intro a hA
 refine seq_skip hA rfl rfl rfl ?_
 intro a hA
 refine seq_do (v := .bool false) hA rfl rfl rfl (does_pick rfl rfl rfl rfl) ?_
 intro a hA
 refine seq_end ?_
 refine hK16 _ _ ?_
 refine wp_cond_false (hA.ev rfl) ?_
 refine wp_skip ?_
 refine hK15 _ _ ?_
 refine wp_seq_k (fun K23 hK23 => ?_)
 refine wp_region_lit ?_
 refine s_litE (e := 21) (sz := 1) (m := 0) (vs := []) hA hM rfl rfl rfl (does_buildSlice rfl (by kernel_rfl)) rfl rfl (.inl (by decide)) ?_
 intro g24 w25 hM a hA
 refine seq_do hA rfl rfl rfl (does_assign rfl) ?_
 intro a hA
 refine seq_end ?_
 refine hK23 _ _ ?_
 refine wp_seq_k (fun K26 hK26 => ?_)
 refine wp_region_lit ?_
 refine seq_do hA rfl rfl rfl (does_move rfl) ?_
 intro a hA
 refine seq_do hA rfl rfl rfl (does_assign rfl) ?_
 intro a hA
 refine seq_end ?_
 refine hK26 _ _ ?_
 refine wp_seq_k (fun K27 hK27 => ?_)
 refine wp_seq_k (fun K28 hK28 => ?_)
 refine wp_region_lit ?_
 refine seq_do hA rfl rfl rfl (does_move rfl) ?_
 intro a hA
 refine seq_do hA rfl rfl rfl (does_assign rfl) ?_
 intro a hA
 refine seq_end ?_
 refine hK28 _ _ ?_
 refine wp_block ?_
 refine wp_loop_n (fun m_ a w1 => ∃ (q : Nat) (sn : Option Addr) (cn : Nat), m_ = l.length - q ∧ (0 + 2 * q ≤ l.length ∨ q = 0) ∧ Sl a 175 [(0, .slice so l.length cap), (2, .slice none 0 0), (3, .slice (some ⟨g3, 0, none⟩) 0 0), (4, .int .i64 0), (5, .bool false), (6, .slice sn q cn), (7, .int .i64 0), (8, .int .i64 (((0 + 2 * q : Nat) : Int))), (13, .slice (some ⟨g3, 0, none⟩) 0 0), (14, .slice so l.length cap), (15, .int .i64 (((l.length : Nat) : Int))), (16, .bool true), (17, .bool true), (18, .slice so l.length cap), (19, .pointer (some ⟨bx9, ox10 + (0), none⟩)), (20, .int .u8 ((((l.getD (0) 0).toNat : Nat) : Int))), (21, .bool false), (22, .bool false), (23, .bool false), (28, .bool false), (29, .slice so l.length cap), (30, .int .i64 (((l.length : Nat) : Int))), (31, .bool true), (32, .bool true), (33, .slice so l.length cap), (34, .pointer (some ⟨bx17, ox18 + (0), none⟩)), (35, .int .u8 ((((l.getD (0) 0).toNat : Nat) : Int))), (36, .bool false), (37, .bool false), (38, .bool false), (43, .bool false), (44, .slice (some ⟨g24, 0, none⟩) 0 0), (45, .int .i64 0), (46, .int .i64 0)] ∧ Mg w w1 (.row 21 1 (.slice sn q cn) q ((runeV (numsL hi2 l 0 q))) :: .row 78 3 (.slice (some ⟨g3, 0, none⟩) 0 0) 0 ([]) :: [])) _ ⟨0, some ⟨g24, 0, none⟩, 0, rfl, by omega, hA.keep _ ⟨rfl, rfl, rfl, rfl, rfl, rfl, rfl, rfl, rfl, rfl, rfl, rfl, rfl, rfl, rfl, rfl, rfl, rfl, rfl, rfl, rfl, rfl, rfl, rfl, rfl, rfl, rfl, rfl, rfl, rfl, rfl, rfl, rfl, rfl, trivial⟩, hM⟩ ?_
 clear hM hA
 rintro m_ a w29 ⟨q, sn, cn, rfl, hinv31, hA, hM⟩ K30 hK30
 refine wp_seq_k (fun K32 hK32 => ?_)
 refine wp_seq_k (fun K33 hK33 => ?_)
 refine wp_region_lit ?_
 refine seq_do hA rfl rfl rfl (does_move rfl) ?_
 intro a hA
 refine seq_do (v := .int .i64 (((0 + 2 * q + 1 : Nat) : Int))) hA rfl rfl rfl (does_bin rfl rfl (ar_add ((in_i64 (by omega) (by omega)).trans (by omega)))) ?_
 intro a hA
 refine seq_do hA rfl rfl rfl (does_move rfl) ?_
 intro a hA
 refine seq_do (v := .int .i64 (((l.length : Nat) : Int))) hA rfl rfl rfl (does_len Try.underlying24 rfl) ?_
 intro a hA
 rcases Bool.eq_false_or_eq_true (decide (((0 + 2 * q + 1 : Nat) : Int) < ((l.length : Nat) : Int))) with hb34 | hb34
 · have hb34' := of_decide_eq_true hb34
   refine seq_do (v := .bool true) hA rfl rfl rfl (does_bin rfl rfl (fun w => (bin_lss w).trans (by rw [hb34]))) ?_
   intro a hA
   refine seq_end ?_
   refine hK33 _ _ ?_
   refine wp_cond_true (hA.ev rfl) ?_
   refine wp_skip ?_
   refine hK32 _ _ ?_
   refine wp_seq_k (fun K35 hK35 => ?_)
   refine wp_block ?_
   refine wp_seq_k (fun K36 hK36 => ?_)
   refine wp_draw (S := fun w1 => Mg w w1 ([])) (by kernel_rfl) ?_
   replace hM := hM.drew
   refine any_tk hA 0 rfl rfl rfl rfl hP (hM.sub (.cons _ (.cons _ (List.nil_sublist _)))) (fun w1 hM => does_move rfl) ?_
   intro a hA
   refine any_tk hA 1 rfl rfl rfl rfl hP (hM.sub (.cons _ (.cons _ (List.nil_sublist _)))) (fun w1 hM => does_move rfl) ?_
   intro a hA
   obtain ⟨bx37, ox38, hxa39, hxb40, hxc41⟩ := rb_open (i := 0 + 2 * q) hb (by omega)
   refine any_tk (v := .pointer (some ⟨bx37, ox38 + (0 + 2 * q), none⟩)) hA 2 rfl rfl rfl rfl hP (hM.sub (.cons _ (.cons _ (List.nil_sublist _)))) (fun w1 hM => does_indexRow Try.underlying24 (by kernel_rfl) rfl rfl rfl hxa39 (show 0 + 2 * q < l.length by omega)) ?_
   intro a hA
   refine any_tk (v := .int .u8 ((((l.getD (0 + 2 * q) 0).toNat : Nat) : Int))) hA 3 rfl rfl rfl rfl hP (hM.sub (.cons _ (.cons _ (List.nil_sublist _)))) (fun w1 hM => m_loadR hM hxb40 (hxc41 (0 + 2 * q) (by omega)) CpF_is1_5 rfl) ?_
   intro a hA
   have hu42 := (l.getD (0 + 2 * q) 0).toNat_lt
   refine any_tk (v := .int .i32 ((((l.getD (0 + 2 * q) 0).toNat : Nat) : Int))) hA 4 rfl rfl rfl rfl hP (hM.sub (.cons _ (.cons _ (List.nil_sublist _)))) (fun w1 hM => does_convert rfl (ar_conv Try.underlying5 Try.underlying21 (in_i32 (by omega) (by omega)))) ?_
   intro a hA
   refine any_tk (v := .int .i32 ((((l.getD (0 + 2 * q) 0).toNat : Nat) : Int) * 256)) hA 5 rfl rfl rfl rfl hP (hM.sub (.cons _ (.cons _ (List.nil_sublist _)))) (fun w1 hM => does_bin rfl rfl (ar_mul (in_i32 (by omega) (by omega)))) ?_
   intro a hA
   refine any_tk hA 6 rfl rfl rfl rfl hP (hM.sub (.cons _ (.cons _ (List.nil_sublist _)))) (fun w1 hM => does_move rfl) ?_
   intro a hA
   refine any_tk hA 7 rfl rfl rfl rfl hP (hM.sub (.cons _ (.cons _ (List.nil_sublist _)))) (fun w1 hM => does_move rfl) ?_
   intro a hA
   refine any_tk (v := .int .i64 (((0 + 2 * q + 1 : Nat) : Int))) hA 8 rfl rfl rfl rfl hP (hM.sub (.cons _ (.cons _ (List.nil_sublist _)))) (fun w1 hM => does_bin rfl rfl (ar_add ((in_i64 (by omega) (by omega)).trans (by omega)))) ?_
   intro a hA
   obtain ⟨bx43, ox44, hxa45, hxb46, hxc47⟩ := rb_open (i := 0 + 2 * q + 1) hb (by omega)
   refine any_tk (v := .pointer (some ⟨bx43, ox44 + (0 + 2 * q + 1), none⟩)) hA 9 rfl rfl rfl rfl hP (hM.sub (.cons _ (.cons _ (List.nil_sublist _)))) (fun w1 hM => does_indexRow Try.underlying24 (by kernel_rfl) rfl rfl rfl hxa45 (show 0 + 2 * q + 1 < l.length by omega)) ?_
   intro a hA
   refine any_tk (v := .int .u8 ((((l.getD (0 + 2 * q + 1) 0).toNat : Nat) : Int))) hA 10 rfl rfl rfl rfl hP (hM.sub (.cons _ (.cons _ (List.nil_sublist _)))) (fun w1 hM => m_loadR hM hxb46 (hxc47 (0 + 2 * q + 1) (by omega)) CpF_is1_5 rfl) ?_
   intro a hA
   have hu48 := (l.getD (0 + 2 * q + 1) 0).toNat_lt
   refine any_tk (v := .int .i32 ((((l.getD (0 + 2 * q + 1) 0).toNat : Nat) : Int))) hA 11 rfl rfl rfl rfl hP (hM.sub (.cons _ (.cons _ (List.nil_sublist _)))) (fun w1 hM => does_convert rfl (ar_conv Try.underlying5 Try.underlying21 (in_i32 (by omega) (by omega)))) ?_
   intro a hA
   refine any_tk (v := .int .i32 (((hi2 (l.getD (0 + 2 * q) 0).toNat (l.getD (0 + 2 * q + 1) 0).toNat : Nat) : Int))) hA 12 rfl rfl rfl rfl hP (hM.sub (.cons _ (.cons _ (List.nil_sublist _)))) (fun w1 hM => does_bin rfl rfl (ar_add ((in_i32 (by omega) (by omega)).trans (by unfold hi2; omega)))) ?_
   intro a hA
   refine any_tk hA 13 rfl rfl rfl rfl hP (hM.sub (.cons _ (.cons _ (List.nil_sublist _)))) (fun w1 hM => does_assign rfl) ?_
   intro a hA
   refine any_end (by kernel_rfl) ?_
   refine hK36 _ _ ?_
   refine wp_seq_k (fun K49 hK49 => ?_)
   refine wp_seq_k (fun K50 hK50 => ?_)
   refine wp_region_lit ?_
   refine seq_do hA rfl rfl rfl (does_move rfl) ?_
   intro a hA
   refine seq_end ?_
   refine hK50 _ _ ?_
   refine wp_cond_false (hA.ev rfl) ?_
   refine wp_skip ?_
   refine hK49 _ _ ?_
   refine wp_region_lit ?_
   refine seq_do hA rfl rfl rfl (does_move rfl) ?_
   intro a hA
   refine seq_do hA rfl rfl rfl (does_move rfl) ?_
   intro a hA
   refine s_litE (e := 21) (sz := 1) (m := 1) (vs := [.int .i32 (((hi2 (l.getD (0 + 2 * q) 0).toNat (l.getD (0 + 2 * q + 1) 0).toNat : Nat) : Int))]) hA hM rfl rfl rfl (does_buildSlice rfl (by kernel_rfl)) rfl rfl (.inl (by decide)) ?_
   intro g51 w52 hM a hA
   refine s_appendE (e := 21) (sz := 1) (k := 1) (q := q) (m := 1) (xs := (runeV (numsL hi2 l 0 q))) (news := [.int .i32 (((hi2 (l.getD (0 + 2 * q) 0).toNat (l.getD (0 + 2 * q + 1) 0).toNat : Nat) : Int))]) (L' := fun v53 => (.row 21 1 (.slice (some ⟨g51, 0, none⟩) 1 1) 1 ([.int .i32 (((hi2 (l.getD (0 + 2 * q) 0).toNat (l.getD (0 + 2 * q + 1) 0).toNat : Nat) : Int))]) :: .row 21 1 (v53) (q + 1) ((runeV (numsL hi2 l 0 q)) ++ [.int .i32 (((hi2 (l.getD (0 + 2 * q) 0).toNat (l.getD (0 + 2 * q + 1) 0).toNat : Nat) : Int))]) :: .row 78 3 (.slice (some ⟨g3, 0, none⟩) 0 0) 0 ([]) :: [])) hA rfl rfl rfl (m_appendE (z := .int .i32 0) (sz := 1) (by_ := 4) Try.underlying74 (by kernel_rfl) rfl rfl rfl hM 1 rfl rfl 0 rfl rfl rfl rfl (by omega)) (fun _ => rfl) ?_
   intro v53 w54 hM a hA
   refine seq_do hA rfl rfl rfl (does_assign rfl) ?_
   intro a hA
   refine seq_end ?_
   refine hK35 _ _ ?_
   refine wp_region_lit ?_
   refine seq_do hA rfl rfl rfl (does_move rfl) ?_
   intro a hA
   refine seq_do (v := .int .i64 (((0 + 2 * q + 2 : Nat) : Int))) hA rfl rfl rfl (does_bin rfl rfl (ar_add ((in_i64 (by omega) (by omega)).trans (by omega)))) ?_
   intro a hA
   refine seq_do hA rfl rfl rfl (does_assign rfl) ?_
   intro a hA
   refine seq_end ?_
   replace hM : Mg w w54 (.row 21 1 (v53) ((q + 1)) ((runeV (numsL hi2 l 0 (q + 1)))) :: .row 78 3 (.slice (some ⟨g3, 0, none⟩) 0 0) 0 ([]) :: []) := by
     have h9 := hM.sub (.cons _ (.cons_cons _ (.cons_cons _ (.refl _))))
     rw [nums_more]
     unfold runeV at h9 ⊢
     rw [List.map_append]
     exact h9
   obtain ⟨so55, ca56, rfl⟩ := owns_sliceE (hM.has 0 rfl)
   refine hK30 _ _ _ (by omega) ⟨q + 1, so55, ca56, rfl, by omega, hA.keep _ ⟨rfl, rfl, rfl, rfl, rfl, rfl, rfl, rfl, rfl, rfl, rfl, rfl, rfl, rfl, rfl, rfl, rfl, rfl, rfl, rfl, rfl, rfl, rfl, rfl, rfl, rfl, rfl, rfl, rfl, rfl, rfl, rfl, rfl, rfl, trivial⟩, hM⟩
 · have hb34' := of_decide_eq_false hb34
   refine seq_do (v := .bool false) hA rfl rfl rfl (does_bin rfl rfl (fun w => (bin_lss w).trans (by rw [hb34]))) ?_
   intro a hA
   refine seq_end ?_
   refine hK33 _ _ ?_
   refine wp_cond_false (hA.ev rfl) ?_
   refine wp_exit ?_
   refine hK27 _ _ ?_
   refine wp_seq_k (fun K57 hK57 => ?_)
   refine wp_seq_k (fun K58 hK58 => ?_)
   refine wp_region_lit ?_
   refine seq_do hA rfl rfl rfl (does_assign rfl) ?_
   intro a hA
   refine seq_end ?_
   refine hK58 _ _ ?_
   refine wp_block ?_
   refine wp_loop_n (fun m_ a w1 => ∃ (i2 : Nat) (acc : List (Int × Int)) (vo : Value), m_ = q - i2 ∧ (acc ++ restW hi2 l (0 + 2 * i2) = unitsW l ∧ i2 ≤ q ∧ acc.length ≤ i2) ∧ Sl a 175 [(0, .slice so l.length cap), (2, .slice none 0 0), (3, vo), (4, .int .i64 0), (5, .bool false), (6, .slice sn q cn), (7, .int .i64 0), (8, .int .i64 (((0 + 2 * q : Nat) : Int))), (10, .int .i64 (((i2 : Nat) : Int))), (13, .slice (some ⟨g3, 0, none⟩) 0 0), (14, .slice so l.length cap), (15, .int .i64 (((l.length : Nat) : Int))), (16, .bool true), (17, .bool true), (18, .slice so l.length cap), (19, .pointer (some ⟨bx9, ox10 + (0), none⟩)), (20, .int .u8 ((((l.getD (0) 0).toNat : Nat) : Int))), (21, .bool false), (22, .bool false), (23, .bool false), (28, .bool false), (29, .slice so l.length cap), (30, .int .i64 (((l.length : Nat) : Int))), (31, .bool true), (32, .bool true), (33, .slice so l.length cap), (34, .pointer (some ⟨bx17, ox18 + (0), none⟩)), (35, .int .u8 ((((l.getD (0) 0).toNat : Nat) : Int))), (36, .bool false), (37, .bool false), (38, .bool false), (43, .bool false), (44, .slice (some ⟨g24, 0, none⟩) 0 0), (45, .int .i64 0), (46, .int .i64 0), (47, .int .i64 (((0 + 2 * q : Nat) : Int))), (48, .int .i64 (((0 + 2 * q + 1 : Nat) : Int))), (49, .slice so l.length cap), (50, .int .i64 (((l.length : Nat) : Int))), (51, .bool false)] ∧ Mg w w1 (.row 21 1 (.slice sn q cn) q ((runeV (numsL hi2 l 0 q))) :: .row 78 3 (vo) acc.length ((unitV acc)) :: [])) _ ⟨0, [], .slice (some ⟨g3, 0, none⟩) 0 0, rfl, ⟨by rw [Nat.mul_zero, Nat.add_zero, List.nil_append, markW_no (by omega)], Nat.zero_le _, Nat.le_refl _⟩, hA.keep _ ⟨rfl, rfl, rfl, rfl, rfl, rfl, rfl, rfl, rfl, rfl, rfl, rfl, rfl, rfl, rfl, rfl, rfl, rfl, rfl, rfl, rfl, rfl, rfl, rfl, rfl, rfl, rfl, rfl, rfl, rfl, rfl, rfl, rfl, rfl, rfl, rfl, rfl, rfl, rfl, rfl, trivial⟩, hM⟩ ?_
   clear hM hA
   rintro m_ a w59 ⟨i2, acc, vo, rfl, hinv61, hA, hM⟩ K60 hK60
   obtain ⟨hrun, hi9, hacc⟩ := hinv61
   refine wp_seq_k (fun K62 hK62 => ?_)
   refine wp_seq_k (fun K63 hK63 => ?_)
   refine wp_region_lit ?_
   refine seq_do hA rfl rfl rfl (does_move rfl) ?_
   intro a hA
   refine seq_do hA rfl rfl rfl (does_move rfl) ?_
   intro a hA
   refine seq_do (v := .int .i64 (((q : Nat) : Int))) hA rfl rfl rfl (does_len Try.underlying74 rfl) ?_
   intro a hA
   rcases Bool.eq_false_or_eq_true (decide (((i2 : Nat) : Int) < ((q : Nat) : Int))) with hb64 | hb64
   · have hb64' := of_decide_eq_true hb64
     refine seq_do (v := .bool true) hA rfl rfl rfl (does_bin rfl rfl (fun w => (bin_lss w).trans (by rw [hb64]))) ?_
     intro a hA
     refine seq_end ?_
     refine hK63 _ _ ?_
     refine wp_cond_true (hA.ev rfl) ?_
     refine wp_skip ?_
     refine hK62 _ _ ?_
     refine wp_seq_k (fun K65 hK65 => ?_)
     refine wp_block ?_
     refine wp_seq_k (fun K66 hK66 => ?_)
     refine wp_region_lit ?_
     refine seq_do hA rfl rfl rfl (does_move rfl) ?_
     intro a hA
     refine seq_do hA rfl rfl rfl (does_move rfl) ?_
     intro a hA
     obtain ⟨gn, hgn⟩ := row_addr hM 0 rfl (show 0 < q by omega)
     refine seq_do (v := .pointer (some ⟨gn, (i2) * 1, none⟩)) hA rfl rfl rfl (does_indexX Try.underlying74 (by kernel_rfl) rfl rfl rfl hgn (show i2 < q by omega)) ?_
     intro a hA
     obtain ⟨n, hn⟩ : ∃ n : Nat, hi2 (l.getD (0 + 2 * (i2)) 0).toNat (l.getD (0 + 2 * (i2) + 1) 0).toNat = n := ⟨_, rfl⟩
     have hltn : n < 65536 := hn ▸ hi2_lt _ _
     refine seq_do (v := .int .i32 (((n : Nat) : Int))) hA rfl rfl rfl (m_loadX hM 0 rfl hgn ((nums_at (g := hi2) (l := l) (f := 0) (n := q) (j := i2) (by omega)).trans (by rw [hn])) CpF_is1_21 rfl) ?_
     intro a hA
     refine seq_do hA rfl rfl rfl (does_assign rfl) ?_
     intro a hA
     refine seq_end ?_
     refine hK66 _ _ ?_
     refine wp_seq_k (fun K67 hK67 => ?_)
     refine wp_region_lit ?_
     refine seq_do hA rfl rfl rfl (does_move rfl) ?_
     intro a hA
     refine seq_do hA rfl rfl rfl (does_move rfl) ?_
     intro a hA
     refine seq_do (v := .int .i64 (((2 * i2 : Nat) : Int))) hA rfl rfl rfl (does_bin rfl rfl (ar_mul ((in_i64 (by omega) (by omega)).trans (by omega)))) ?_
     intro a hA
     refine seq_do (v := .int .i64 (((0 + 2 * i2 : Nat) : Int))) hA rfl rfl rfl (does_bin rfl rfl (ar_add ((in_i64 (by omega) (by omega)).trans (by omega)))) ?_
     intro a hA
     refine seq_do hA rfl rfl rfl (does_assign rfl) ?_
     intro a hA
     refine seq_end ?_
     refine hK67 _ _ ?_
     refine wp_block ?_
     refine wp_seq_k (fun K68 hK68 => ?_)
     refine wp_region_lit ?_
     refine seq_do hA rfl rfl rfl (does_move rfl) ?_
     intro a hA
     rcases Bool.eq_false_or_eq_true (decide (((n : Nat) : Int) < 55296)) with hb69 | hb69
     · have hb69' := of_decide_eq_true hb69
       refine seq_do (v := .bool true) hA rfl rfl rfl (does_bin rfl rfl (fun w => (bin_lss w).trans (by rw [hb69]))) ?_
       intro a hA
       refine seq_do hA rfl rfl rfl (does_move rfl) ?_
       intro a hA
       refine seq_skip hA rfl rfl rfl ?_
       intro a hA
       refine seq_skip hA rfl rfl rfl ?_
       intro a hA
       refine seq_do (v := .bool true) hA rfl rfl rfl (does_pick rfl rfl rfl rfl) ?_
       intro a hA
       refine seq_do hA rfl rfl rfl (does_assign rfl) ?_
       intro a hA
       refine seq_end ?_
       refine hK68 _ _ ?_
       refine wp_cond_true (hA.ev rfl) ?_
       refine wp_region_lit ?_
       refine seq_do hA rfl rfl rfl (does_move rfl) ?_
       intro a hA
       refine seq_do hA rfl rfl rfl (does_move rfl) ?_
       intro a hA
       refine seq_do hA rfl rfl rfl (does_move rfl) ?_
       intro a hA
       refine seq_do (v := .agg #[.int .i32 (((n : Nat) : Int)), .bool false, .int .i64 (((0 + 2 * i2 : Nat) : Int))]) hA rfl rfl rfl (does_build rfl (fun w => by kernel_rfl)) ?_
       intro a hA
       refine s_litE (e := 78) (sz := 3) (m := 1) (vs := [.int .i32 (((n : Nat) : Int)), .bool false, .int .i64 (((0 + 2 * i2 : Nat) : Int))]) hA hM rfl rfl rfl (does_buildSlice rfl (by kernel_rfl)) rfl rfl (.inl (by decide)) ?_
       intro g70 w71 hM a hA
       refine s_appendE (e := 78) (sz := 3) (k := 2) (q := acc.length) (m := 1) (xs := (unitV acc)) (news := [.int .i32 (((n : Nat) : Int)), .bool false, .int .i64 (((0 + 2 * i2 : Nat) : Int))]) (L' := fun v72 => (.row 78 3 (.slice (some ⟨g70, 0, none⟩) 1 1) 1 ([.int .i32 (((n : Nat) : Int)), .bool false, .int .i64 (((0 + 2 * i2 : Nat) : Int))]) :: .row 21 1 (.slice sn q cn) q ((runeV (numsL hi2 l 0 q))) :: .row 78 3 (v72) (acc.length + 1) ((unitV acc) ++ [.int .i32 (((n : Nat) : Int)), .bool false, .int .i64 (((0 + 2 * i2 : Nat) : Int))]) :: [])) hA rfl rfl rfl (m_appendE (z := .agg #[.int .i32 0, .bool false, .int .i64 0]) (sz := 3) (by_ := 16) Try.underlying75 (by kernel_rfl) rfl rfl rfl hM 2 rfl rfl 0 rfl rfl rfl rfl (by omega)) (fun _ => rfl) ?_
       intro v72 w73 hM a hA
       refine seq_do hA rfl rfl rfl (does_assign rfl) ?_
       intro a hA
       refine seq_end ?_
       refine hK65 _ _ ?_
       refine wp_region_lit ?_
       refine seq_do hA rfl rfl rfl (does_move rfl) ?_
       intro a hA
       refine seq_do (v := .int .i64 (((i2 + 1 : Nat) : Int))) hA rfl rfl rfl (does_bin rfl rfl (ar_add ((in_i64 (by omega) (by omega)).trans (by omega)))) ?_
       intro a hA
       refine seq_do hA rfl rfl rfl (does_assign rfl) ?_
       intro a hA
       refine seq_end ?_
       replace hM : Mg w w73 (.row 21 1 (.slice sn q cn) q ((runeV (numsL hi2 l 0 q))) :: .row 78 3 (v72) ((acc ++ [(((0 + 2 * i2 : Nat) : Int), ((n : Nat) : Int))]).length) ((unitV (acc ++ [(((0 + 2 * i2 : Nat) : Int), ((n : Nat) : Int))]))) :: []) := by
         have h9 := hM.sub (.cons _ (.cons_cons _ (.cons_cons _ (.refl _))))
         rw [unitV_snoc_good (by omega), List.length_append]
         exact h9
       refine hK60 _ _ _ (by omega) ⟨i2 + 1, acc ++ [(((0 + 2 * i2 : Nat) : Int), ((n : Nat) : Int))], v72, rfl, ⟨by rw [← hrun, pair_one (g := hi2) (l := l) (p := 0 + 2 * i2) (by omega) hn (by omega), show 0 + 2 * (i2 + 1) = 0 + 2 * i2 + 2 from by omega, List.append_assoc]; rfl, by omega, by rw [List.length_append]; simp only [List.length_cons, List.length_nil]; omega⟩, hA.keep _ ⟨rfl, rfl, rfl, rfl, rfl, rfl, rfl, rfl, rfl, rfl, rfl, rfl, rfl, rfl, rfl, rfl, rfl, rfl, rfl, rfl, rfl, rfl, rfl, rfl, rfl, rfl, rfl, rfl, rfl, rfl, rfl, rfl, rfl, rfl, rfl, rfl, rfl, rfl, rfl, rfl, trivial⟩, hM⟩
     · have hb69' := of_decide_eq_false hb69
       refine seq_do (v := .bool false) hA rfl rfl rfl (does_bin rfl rfl (fun w => (bin_lss w).trans (by rw [hb69]))) ?_
       intro a hA
       refine seq_do hA rfl rfl rfl (does_move rfl) ?_
       intro a hA
       refine seq_do hA rfl rfl rfl (does_move rfl) ?_
       intro a hA
       rcases Bool.eq_false_or_eq_true (decide (57343 < ((n : Nat) : Int))) with hb74 | hb74
       · have hb74' := of_decide_eq_true hb74
         refine seq_do (v := .bool true) hA rfl rfl rfl (does_bin rfl rfl (fun w => (bin_gtr w).trans (by rw [hb74]))) ?_
         intro a hA
         refine seq_do (v := .bool true) hA rfl rfl rfl (does_pick rfl rfl rfl rfl) ?_
         intro a hA
         refine seq_do hA rfl rfl rfl (does_assign rfl) ?_
         intro a hA
         refine seq_end ?_
         refine hK68 _ _ ?_
         refine wp_cond_true (hA.ev rfl) ?_
         refine wp_region_lit ?_
         refine seq_do hA rfl rfl rfl (does_move rfl) ?_
         intro a hA
         refine seq_do hA rfl rfl rfl (does_move rfl) ?_
         intro a hA
         refine seq_do hA rfl rfl rfl (does_move rfl) ?_
         intro a hA
         refine seq_do (v := .agg #[.int .i32 (((n : Nat) : Int)), .bool false, .int .i64 (((0 + 2 * i2 : Nat) : Int))]) hA rfl rfl rfl (does_build rfl (fun w => by kernel_rfl)) ?_
         intro a hA
         refine s_litE (e := 78) (sz := 3) (m := 1) (vs := [.int .i32 (((n : Nat) : Int)), .bool false, .int .i64 (((0 + 2 * i2 : Nat) : Int))]) hA hM rfl rfl rfl (does_buildSlice rfl (by kernel_rfl)) rfl rfl (.inl (by decide)) ?_
         intro g75 w76 hM a hA
         refine s_appendE (e := 78) (sz := 3) (k := 2) (q := acc.length) (m := 1) (xs := (unitV acc)) (news := [.int .i32 (((n : Nat) : Int)), .bool false, .int .i64 (((0 + 2 * i2 : Nat) : Int))]) (L' := fun v77 => (.row 78 3 (.slice (some ⟨g75, 0, none⟩) 1 1) 1 ([.int .i32 (((n : Nat) : Int)), .bool false, .int .i64 (((0 + 2 * i2 : Nat) : Int))]) :: .row 21 1 (.slice sn q cn) q ((runeV (numsL hi2 l 0 q))) :: .row 78 3 (v77) (acc.length + 1) ((unitV acc) ++ [.int .i32 (((n : Nat) : Int)), .bool false, .int .i64 (((0 + 2 * i2 : Nat) : Int))]) :: [])) hA rfl rfl rfl (m_appendE (z := .agg #[.int .i32 0, .bool false, .int .i64 0]) (sz := 3) (by_ := 16) Try.underlying75 (by kernel_rfl) rfl rfl rfl hM 2 rfl rfl 0 rfl rfl rfl rfl (by omega)) (fun _ => rfl) ?_
         intro v77 w78 hM a hA
         refine seq_do hA rfl rfl rfl (does_assign rfl) ?_
         intro a hA
         refine seq_end ?_
         refine hK65 _ _ ?_
         refine wp_region_lit ?_
         refine seq_do hA rfl rfl rfl (does_move rfl) ?_
         intro a hA
         refine seq_do (v := .int .i64 (((i2 + 1 : Nat) : Int))) hA rfl rfl rfl (does_bin rfl rfl (ar_add ((in_i64 (by omega) (by omega)).trans (by omega)))) ?_
         intro a hA
         refine seq_do hA rfl rfl rfl (does_assign rfl) ?_
         intro a hA
         refine seq_end ?_
         replace hM : Mg w w78 (.row 21 1 (.slice sn q cn) q ((runeV (numsL hi2 l 0 q))) :: .row 78 3 (v77) ((acc ++ [(((0 + 2 * i2 : Nat) : Int), ((n : Nat) : Int))]).length) ((unitV (acc ++ [(((0 + 2 * i2 : Nat) : Int), ((n : Nat) : Int))]))) :: []) := by
           have h9 := hM.sub (.cons _ (.cons_cons _ (.cons_cons _ (.refl _))))
           rw [unitV_snoc_good (by omega), List.length_append]
           exact h9
         refine hK60 _ _ _ (by omega) ⟨i2 + 1, acc ++ [(((0 + 2 * i2 : Nat) : Int), ((n : Nat) : Int))], v77, rfl, ⟨by rw [← hrun, pair_one (g := hi2) (l := l) (p := 0 + 2 * i2) (by omega) hn (by omega), show 0 + 2 * (i2 + 1) = 0 + 2 * i2 + 2 from by omega, List.append_assoc]; rfl, by omega, by rw [List.length_append]; simp only [List.length_cons, List.length_nil]; omega⟩, hA.keep _ ⟨rfl, rfl, rfl, rfl, rfl, rfl, rfl, rfl, rfl, rfl, rfl, rfl, rfl, rfl, rfl, rfl, rfl, rfl, rfl, rfl, rfl, rfl, rfl, rfl, rfl, rfl, rfl, rfl, rfl, rfl, rfl, rfl, rfl, rfl, rfl, rfl, rfl, rfl, rfl, rfl, trivial⟩, hM⟩
       · have hb74' := of_decide_eq_false hb74
         refine seq_do (v := .bool false) hA rfl rfl rfl (does_bin rfl rfl (fun w => (bin_gtr w).trans (by rw [hb74]))) ?_
         intro a hA
         refine seq_do (v := .bool false) hA rfl rfl rfl (does_pick rfl rfl rfl rfl) ?_
         intro a hA
         refine seq_do hA rfl rfl rfl (does_assign rfl) ?_
         intro a hA
         refine seq_end ?_
         refine hK68 _ _ ?_
         refine wp_cond_false (hA.ev rfl) ?_
         refine wp_seq_k (fun K79 hK79 => ?_)
         refine wp_region_lit ?_
         refine seq_do hA rfl rfl rfl (does_move rfl) ?_
         intro a hA
         rcases Bool.eq_false_or_eq_true (decide (((n : Nat) : Int) ≤ 56319)) with hb80 | hb80
         · have hb80' := of_decide_eq_true hb80
           refine seq_do (v := .bool true) hA rfl rfl rfl (does_bin rfl rfl (fun w => (bin_leq w).trans (by rw [hb80]))) ?_
           intro a hA
           refine seq_do hA rfl rfl rfl (does_move rfl) ?_
           intro a hA
           refine seq_do hA rfl rfl rfl (does_move rfl) ?_
           intro a hA
           refine seq_do (v := .int .i64 (((i2 + 1 : Nat) : Int))) hA rfl rfl rfl (does_bin rfl rfl (ar_add ((in_i64 (by omega) (by omega)).trans (by omega)))) ?_
           intro a hA
           refine seq_do hA rfl rfl rfl (does_move rfl) ?_
           intro a hA
           refine seq_do (v := .int .i64 (((q : Nat) : Int))) hA rfl rfl rfl (does_len Try.underlying74 rfl) ?_
           intro a hA
           rcases Bool.eq_false_or_eq_true (decide (((i2 + 1 : Nat) : Int) < ((q : Nat) : Int))) with hb81 | hb81
           · have hb81' := of_decide_eq_true hb81
             refine seq_do (v := .bool true) hA rfl rfl rfl (does_bin rfl rfl (fun w => (bin_lss w).trans (by rw [hb81]))) ?_
             intro a hA
             refine seq_do (v := .bool true) hA rfl rfl rfl (does_pick rfl rfl rfl rfl) ?_
             intro a hA
             refine seq_do hA rfl rfl rfl (does_move rfl) ?_
             intro a hA
             refine seq_do hA rfl rfl rfl (does_move rfl) ?_
             intro a hA
             refine seq_do hA rfl rfl rfl (does_move rfl) ?_
             intro a hA
             refine seq_do (v := .int .i64 (((i2 + 1 : Nat) : Int))) hA rfl rfl rfl (does_bin rfl rfl (ar_add ((in_i64 (by omega) (by omega)).trans (by omega)))) ?_
             intro a hA
             refine seq_do (v := .pointer (some ⟨gn, (i2 + 1) * 1, none⟩)) hA rfl rfl rfl (does_indexX Try.underlying74 (by kernel_rfl) rfl rfl rfl hgn (show i2 + 1 < q by omega)) ?_
             intro a hA
             obtain ⟨m9, hm9⟩ : ∃ m9 : Nat, hi2 (l.getD (0 + 2 * (i2 + 1)) 0).toNat (l.getD (0 + 2 * (i2 + 1) + 1) 0).toNat = m9 := ⟨_, rfl⟩
             have hltm9 : m9 < 65536 := hm9 ▸ hi2_lt _ _
             refine seq_do (v := .int .i32 (((m9 : Nat) : Int))) hA rfl rfl rfl (m_loadX hM 0 rfl hgn ((nums_at (g := hi2) (l := l) (f := 0) (n := q) (j := i2 + 1) (by omega)).trans (by rw [hm9])) CpF_is1_21 rfl) ?_
             intro a hA
             rcases Bool.eq_false_or_eq_true (decide (56320 ≤ ((m9 : Nat) : Int))) with hb82 | hb82
             · have hb82' := of_decide_eq_true hb82
               refine seq_do (v := .bool true) hA rfl rfl rfl (does_bin rfl rfl (fun w => (bin_geq w).trans (by rw [hb82]))) ?_
               intro a hA
               refine seq_do (v := .bool true) hA rfl rfl rfl (does_pick rfl rfl rfl rfl) ?_
               intro a hA
               refine seq_do hA rfl rfl rfl (does_move rfl) ?_
               intro a hA
               refine seq_do hA rfl rfl rfl (does_move rfl) ?_
               intro a hA
               refine seq_do hA rfl rfl rfl (does_move rfl) ?_
               intro a hA
               refine seq_do (v := .int .i64 (((i2 + 1 : Nat) : Int))) hA rfl rfl rfl (does_bin rfl rfl (ar_add ((in_i64 (by omega) (by omega)).trans (by omega)))) ?_
               intro a hA
               refine seq_do (v := .pointer (some ⟨gn, (i2 + 1) * 1, none⟩)) hA rfl rfl rfl (does_indexX Try.underlying74 (by kernel_rfl) rfl rfl rfl hgn (show i2 + 1 < q by omega)) ?_
               intro a hA
               refine seq_do (v := .int .i32 (((m9 : Nat) : Int))) hA rfl rfl rfl (m_loadX hM 0 rfl hgn ((nums_at (g := hi2) (l := l) (f := 0) (n := q) (j := i2 + 1) (by omega)).trans (by rw [hm9])) CpF_is1_21 rfl) ?_
               intro a hA
               rcases Bool.eq_false_or_eq_true (decide (((m9 : Nat) : Int) ≤ 57343)) with hb83 | hb83
               · have hb83' := of_decide_eq_true hb83
                 refine seq_do (v := .bool true) hA rfl rfl rfl (does_bin rfl rfl (fun w => (bin_leq w).trans (by rw [hb83]))) ?_
                 intro a hA
                 refine seq_do (v := .bool true) hA rfl rfl rfl (does_pick rfl rfl rfl rfl) ?_
                 intro a hA
                 refine seq_do hA rfl rfl rfl (does_assign rfl) ?_
                 intro a hA
                 refine seq_end ?_
                 refine hK79 _ _ ?_
                 refine wp_cond_true (hA.ev rfl) ?_
                 refine wp_seq_k (fun K84 hK84 => ?_)
                 refine wp_region_lit ?_
                 refine seq_do hA rfl rfl rfl (does_move rfl) ?_
                 intro a hA
                 refine seq_do hA rfl rfl rfl (does_move rfl) ?_
                 intro a hA
                 refine seq_do (v := .int .i32 (((n : Nat) : Int) - 55296)) hA rfl rfl rfl (does_bin rfl rfl (ar_sub (in_i32 (by omega) (by omega)))) ?_
                 intro a hA
                 refine seq_do (v := .int .i32 ((((n : Nat) : Int) - 55296) * 1024)) hA rfl rfl rfl (does_bin rfl rfl (ar_mul (in_i32 (by omega) (by omega)))) ?_
                 intro a hA
                 refine seq_do (v := .int .i32 (65536 + ((((n : Nat) : Int) - 55296) * 1024))) hA rfl rfl rfl (does_bin rfl rfl (ar_add (in_i32 (by omega) (by omega)))) ?_
                 intro a hA
                 refine seq_do hA rfl rfl rfl (does_move rfl) ?_
                 intro a hA
                 refine seq_do hA rfl rfl rfl (does_move rfl) ?_
                 intro a hA
                 refine seq_do (v := .int .i64 (((i2 + 1 : Nat) : Int))) hA rfl rfl rfl (does_bin rfl rfl (ar_add ((in_i64 (by omega) (by omega)).trans (by omega)))) ?_
                 intro a hA
                 refine seq_do (v := .pointer (some ⟨gn, (i2 + 1) * 1, none⟩)) hA rfl rfl rfl (does_indexX Try.underlying74 (by kernel_rfl) rfl rfl rfl hgn (show i2 + 1 < q by omega)) ?_
                 intro a hA
                 refine seq_do (v := .int .i32 (((m9 : Nat) : Int))) hA rfl rfl rfl (m_loadX hM 0 rfl hgn ((nums_at (g := hi2) (l := l) (f := 0) (n := q) (j := i2 + 1) (by omega)).trans (by rw [hm9])) CpF_is1_21 rfl) ?_
                 intro a hA
                 refine seq_do (v := .int .i32 (65536 + ((((n : Nat) : Int) - 55296) * 1024) + (((m9 : Nat) : Int)))) hA rfl rfl rfl (does_bin rfl rfl (ar_add (in_i32 (by omega) (by omega)))) ?_
                 intro a hA
                 refine seq_do (v := .int .i32 (65536 + ((((n : Nat) : Int) - 55296) * 1024) + (((m9 : Nat) : Int)) - 56320)) hA rfl rfl rfl (does_bin rfl rfl (ar_sub (in_i32 (by omega) (by omega)))) ?_
                 intro a hA
                 refine seq_do hA rfl rfl rfl (does_move rfl) ?_
                 intro a hA
                 refine seq_do (v := .agg #[.int .i32 (65536 + ((((n : Nat) : Int) - 55296) * 1024) + (((m9 : Nat) : Int)) - 56320), .bool false, .int .i64 (((0 + 2 * i2 : Nat) : Int))]) hA rfl rfl rfl (does_build rfl (fun w => by kernel_rfl)) ?_
                 intro a hA
                 refine s_litE (e := 78) (sz := 3) (m := 1) (vs := [.int .i32 (65536 + ((((n : Nat) : Int) - 55296) * 1024) + (((m9 : Nat) : Int)) - 56320), .bool false, .int .i64 (((0 + 2 * i2 : Nat) : Int))]) hA hM rfl rfl rfl (does_buildSlice rfl (by kernel_rfl)) rfl rfl (.inl (by decide)) ?_
                 intro g85 w86 hM a hA
                 refine s_appendE (e := 78) (sz := 3) (k := 2) (q := acc.length) (m := 1) (xs := (unitV acc)) (news := [.int .i32 (65536 + ((((n : Nat) : Int) - 55296) * 1024) + (((m9 : Nat) : Int)) - 56320), .bool false, .int .i64 (((0 + 2 * i2 : Nat) : Int))]) (L' := fun v87 => (.row 78 3 (.slice (some ⟨g85, 0, none⟩) 1 1) 1 ([.int .i32 (65536 + ((((n : Nat) : Int) - 55296) * 1024) + (((m9 : Nat) : Int)) - 56320), .bool false, .int .i64 (((0 + 2 * i2 : Nat) : Int))]) :: .row 21 1 (.slice sn q cn) q ((runeV (numsL hi2 l 0 q))) :: .row 78 3 (v87) (acc.length + 1) ((unitV acc) ++ [.int .i32 (65536 + ((((n : Nat) : Int) - 55296) * 1024) + (((m9 : Nat) : Int)) - 56320), .bool false, .int .i64 (((0 + 2 * i2 : Nat) : Int))]) :: [])) hA rfl rfl rfl (m_appendE (z := .agg #[.int .i32 0, .bool false, .int .i64 0]) (sz := 3) (by_ := 16) Try.underlying75 (by kernel_rfl) rfl rfl rfl hM 2 rfl rfl 0 rfl rfl rfl rfl (by omega)) (fun _ => rfl) ?_
                 intro v87 w88 hM a hA
                 refine seq_do hA rfl rfl rfl (does_assign rfl) ?_
                 intro a hA
                 refine seq_end ?_
                 refine hK84 _ _ ?_
                 refine wp_region_lit ?_
                 refine seq_do hA rfl rfl rfl (does_move rfl) ?_
                 intro a hA
                 refine seq_do (v := .int .i64 (((i2 + 1 : Nat) : Int))) hA rfl rfl rfl (does_bin rfl rfl (ar_add ((in_i64 (by omega) (by omega)).trans (by omega)))) ?_
                 intro a hA
                 refine seq_do hA rfl rfl rfl (does_assign rfl) ?_
                 intro a hA
                 refine seq_end ?_
                 refine hK65 _ _ ?_
                 refine wp_region_lit ?_
                 refine seq_do hA rfl rfl rfl (does_move rfl) ?_
                 intro a hA
                 refine seq_do (v := .int .i64 (((i2 + 1 + 1 : Nat) : Int))) hA rfl rfl rfl (does_bin rfl rfl (ar_add ((in_i64 (by omega) (by omega)).trans (by omega)))) ?_
                 intro a hA
                 refine seq_do hA rfl rfl rfl (does_assign rfl) ?_
                 intro a hA
                 refine seq_end ?_
                 replace hM : Mg w w88 (.row 21 1 (.slice sn q cn) q ((runeV (numsL hi2 l 0 q))) :: .row 78 3 (v87) ((acc ++ [(((0 + 2 * i2 : Nat) : Int), 65536 + ((((n : Nat) : Int) - 55296) * 1024) + (((m9 : Nat) : Int)) - 56320)]).length) ((unitV (acc ++ [(((0 + 2 * i2 : Nat) : Int), 65536 + ((((n : Nat) : Int) - 55296) * 1024) + (((m9 : Nat) : Int)) - 56320)]))) :: []) := by
                   have h9 := hM.sub (.cons _ (.cons_cons _ (.cons_cons _ (.refl _))))
                   rw [unitV_snoc_good (by omega), List.length_append]
                   exact h9
                 refine hK60 _ _ _ (by omega) ⟨i2 + 1 + 1, acc ++ [(((0 + 2 * i2 : Nat) : Int), 65536 + ((((n : Nat) : Int) - 55296) * 1024) + (((m9 : Nat) : Int)) - 56320)], v87, rfl, ⟨by rw [← hrun, pair_two (g := hi2) (l := l) (p := 0 + 2 * i2) (by omega) hn (show hi2 (l.getD (0 + 2 * i2 + 2) 0).toNat (l.getD (0 + 2 * i2 + 3) 0).toNat = m9 from hm9) (by omega) (by omega) (by omega) (by omega), show 0 + 2 * (i2 + 1 + 1) = 0 + 2 * i2 + 4 from by omega, List.append_assoc]; rfl, by omega, by rw [List.length_append]; simp only [List.length_cons, List.length_nil]; omega⟩, hA.keep _ ⟨rfl, rfl, rfl, rfl, rfl, rfl, rfl, rfl, rfl, rfl, rfl, rfl, rfl, rfl, rfl, rfl, rfl, rfl, rfl, rfl, rfl, rfl, rfl, rfl, rfl, rfl, rfl, rfl, rfl, rfl, rfl, rfl, rfl, rfl, rfl, rfl, rfl, rfl, rfl, rfl, trivial⟩, hM⟩
               · have hb83' := of_decide_eq_false hb83
                 refine seq_do (v := .bool false) hA rfl rfl rfl (does_bin rfl rfl (fun w => (bin_leq w).trans (by rw [hb83]))) ?_
                 intro a hA
                 refine seq_do (v := .bool false) hA rfl rfl rfl (does_pick rfl rfl rfl rfl) ?_
                 intro a hA
                 refine seq_do hA rfl rfl rfl (does_assign rfl) ?_
                 intro a hA
                 refine seq_end ?_
                 refine hK79 _ _ ?_
                 refine wp_cond_false (hA.ev rfl) ?_
                 refine wp_region_lit ?_
                 refine seq_do hA rfl rfl rfl (does_move rfl) ?_
                 intro a hA
                 refine seq_do hA rfl rfl rfl (does_move rfl) ?_
                 intro a hA
                 refine seq_do (v := .agg #[.int .i32 0, .bool true, .int .i64 (((0 + 2 * i2 : Nat) : Int))]) hA rfl rfl rfl (does_build rfl (fun w => by kernel_rfl)) ?_
                 intro a hA
                 refine s_litE (e := 78) (sz := 3) (m := 1) (vs := [.int .i32 0, .bool true, .int .i64 (((0 + 2 * i2 : Nat) : Int))]) hA hM rfl rfl rfl (does_buildSlice rfl (by kernel_rfl)) rfl rfl (.inl (by decide)) ?_
                 intro g89 w90 hM a hA
                 refine s_appendE (e := 78) (sz := 3) (k := 2) (q := acc.length) (m := 1) (xs := (unitV acc)) (news := [.int .i32 0, .bool true, .int .i64 (((0 + 2 * i2 : Nat) : Int))]) (L' := fun v91 => (.row 78 3 (.slice (some ⟨g89, 0, none⟩) 1 1) 1 ([.int .i32 0, .bool true, .int .i64 (((0 + 2 * i2 : Nat) : Int))]) :: .row 21 1 (.slice sn q cn) q ((runeV (numsL hi2 l 0 q))) :: .row 78 3 (v91) (acc.length + 1) ((unitV acc) ++ [.int .i32 0, .bool true, .int .i64 (((0 + 2 * i2 : Nat) : Int))]) :: [])) hA rfl rfl rfl (m_appendE (z := .agg #[.int .i32 0, .bool false, .int .i64 0]) (sz := 3) (by_ := 16) Try.underlying75 (by kernel_rfl) rfl rfl rfl hM 2 rfl rfl 0 rfl rfl rfl rfl (by omega)) (fun _ => rfl) ?_
                 intro v91 w92 hM a hA
                 refine seq_do hA rfl rfl rfl (does_assign rfl) ?_
                 intro a hA
                 refine seq_end ?_
                 refine hK65 _ _ ?_
                 refine wp_region_lit ?_
                 refine seq_do hA rfl rfl rfl (does_move rfl) ?_
                 intro a hA
                 refine seq_do (v := .int .i64 (((i2 + 1 : Nat) : Int))) hA rfl rfl rfl (does_bin rfl rfl (ar_add ((in_i64 (by omega) (by omega)).trans (by omega)))) ?_
                 intro a hA
                 refine seq_do hA rfl rfl rfl (does_assign rfl) ?_
                 intro a hA
                 refine seq_end ?_
                 replace hM : Mg w w92 (.row 21 1 (.slice sn q cn) q ((runeV (numsL hi2 l 0 q))) :: .row 78 3 (v91) ((acc ++ [(((0 + 2 * i2 : Nat) : Int), -1)]).length) ((unitV (acc ++ [(((0 + 2 * i2 : Nat) : Int), -1)]))) :: []) := by
                   have h9 := hM.sub (.cons _ (.cons_cons _ (.cons_cons _ (.refl _))))
                   rw [unitV_snoc_bad, List.length_append]
                   exact h9
                 refine hK60 _ _ _ (by omega) ⟨i2 + 1, acc ++ [(((0 + 2 * i2 : Nat) : Int), -1)], v91, rfl, ⟨by rw [← hrun, pair_bad (g := hi2) (l := l) (p := 0 + 2 * i2) (by omega) hn (by omega) (by omega) (fun _ _ => by rw [show hi2 (l.getD (0 + 2 * i2 + 2) 0).toNat (l.getD (0 + 2 * i2 + 3) 0).toNat = m9 from hm9]; omega), show 0 + 2 * (i2 + 1) = 0 + 2 * i2 + 2 from by omega, List.append_assoc]; rfl, by omega, by rw [List.length_append]; simp only [List.length_cons, List.length_nil]; omega⟩, hA.keep _ ⟨rfl, rfl, rfl, rfl, rfl, rfl, rfl, rfl, rfl, rfl, rfl, rfl, rfl, rfl, rfl, rfl, rfl, rfl, rfl, rfl, rfl, rfl, rfl, rfl, rfl, rfl, rfl, rfl, rfl, rfl, rfl, rfl, rfl, rfl, rfl, rfl, rfl, rfl, rfl, rfl, trivial⟩, hM⟩
             · have hb82' := of_decide_eq_false hb82
               refine seq_do (v := .bool false) hA rfl rfl rfl (does_bin rfl rfl (fun w => (bin_geq w).trans (by rw [hb82]))) ?_
               intro a hA
               refine seq_do (v := .bool false) hA rfl rfl rfl (does_pick rfl rfl rfl rfl) ?_
               intro a hA
               refine seq_do hA rfl rfl rfl (does_move rfl) ?_
               intro a hA
               refine seq_skip hA rfl rfl rfl ?_
               intro a hA
               refine seq_skip hA rfl rfl rfl ?_
               intro a hA
               refine seq_skip hA rfl rfl rfl ?_
               intro a hA
               refine seq_skip hA rfl rfl rfl ?_
               intro a hA
               refine seq_skip hA rfl rfl rfl ?_
               intro a hA
               refine seq_skip hA rfl rfl rfl ?_
               intro a hA
               refine seq_do (v := .bool false) hA rfl rfl rfl (does_pick rfl rfl rfl rfl) ?_
               intro a hA
               refine seq_do hA rfl rfl rfl (does_assign rfl) ?_
               intro a hA
               refine seq_end ?_
               refine hK79 _ _ ?_
               refine wp_cond_false (hA.ev rfl) ?_
               refine wp_region_lit ?_
               refine seq_do hA rfl rfl rfl (does_move rfl) ?_
               intro a hA
               refine seq_do hA rfl rfl rfl (does_move rfl) ?_
               intro a hA
               refine seq_do (v := .agg #[.int .i32 0, .bool true, .int .i64 (((0 + 2 * i2 : Nat) : Int))]) hA rfl rfl rfl (does_build rfl (fun w => by kernel_rfl)) ?_
               intro a hA
               refine s_litE (e := 78) (sz := 3) (m := 1) (vs := [.int .i32 0, .bool true, .int .i64 (((0 + 2 * i2 : Nat) : Int))]) hA hM rfl rfl rfl (does_buildSlice rfl (by kernel_rfl)) rfl rfl (.inl (by decide)) ?_
               intro g93 w94 hM a hA
               refine s_appendE (e := 78) (sz := 3) (k := 2) (q := acc.length) (m := 1) (xs := (unitV acc)) (news := [.int .i32 0, .bool true, .int .i64 (((0 + 2 * i2 : Nat) : Int))]) (L' := fun v95 => (.row 78 3 (.slice (some ⟨g93, 0, none⟩) 1 1) 1 ([.int .i32 0, .bool true, .int .i64 (((0 + 2 * i2 : Nat) : Int))]) :: .row 21 1 (.slice sn q cn) q ((runeV (numsL hi2 l 0 q))) :: .row 78 3 (v95) (acc.length + 1) ((unitV acc) ++ [.int .i32 0, .bool true, .int .i64 (((0 + 2 * i2 : Nat) : Int))]) :: [])) hA rfl rfl rfl (m_appendE (z := .agg #[.int .i32 0, .bool false, .int .i64 0]) (sz := 3) (by_ := 16) Try.underlying75 (by kernel_rfl) rfl rfl rfl hM 2 rfl rfl 0 rfl rfl rfl rfl (by omega)) (fun _ => rfl) ?_
               intro v95 w96 hM a hA
               refine seq_do hA rfl rfl rfl (does_assign rfl) ?_
               intro a hA
               refine seq_end ?_
               refine hK65 _ _ ?_
               refine wp_region_lit ?_
               refine seq_do hA rfl rfl rfl (does_move rfl) ?_
               intro a hA
               refine seq_do (v := .int .i64 (((i2 + 1 : Nat) : Int))) hA rfl rfl rfl (does_bin rfl rfl (ar_add ((in_i64 (by omega) (by omega)).trans (by omega)))) ?_
               intro a hA
               refine seq_do hA rfl rfl rfl (does_assign rfl) ?_
               intro a hA
               refine seq_end ?_
               replace hM : Mg w w96 (.row 21 1 (.slice sn q cn) q ((runeV (numsL hi2 l 0 q))) :: .row 78 3 (v95) ((acc ++ [(((0 + 2 * i2 : Nat) : Int), -1)]).length) ((unitV (acc ++ [(((0 + 2 * i2 : Nat) : Int), -1)]))) :: []) := by
                 have h9 := hM.sub (.cons _ (.cons_cons _ (.cons_cons _ (.refl _))))
                 rw [unitV_snoc_bad, List.length_append]
                 exact h9
               refine hK60 _ _ _ (by omega) ⟨i2 + 1, acc ++ [(((0 + 2 * i2 : Nat) : Int), -1)], v95, rfl, ⟨by rw [← hrun, pair_bad (g := hi2) (l := l) (p := 0 + 2 * i2) (by omega) hn (by omega) (by omega) (fun _ _ => by rw [show hi2 (l.getD (0 + 2 * i2 + 2) 0).toNat (l.getD (0 + 2 * i2 + 3) 0).toNat = m9 from hm9]; omega), show 0 + 2 * (i2 + 1) = 0 + 2 * i2 + 2 from by omega, List.append_assoc]; rfl, by omega, by rw [List.length_append]; simp only [List.length_cons, List.length_nil]; omega⟩, hA.keep _ ⟨rfl, rfl, rfl, rfl, rfl, rfl, rfl, rfl, rfl, rfl, rfl, rfl, rfl, rfl, rfl, rfl, rfl, rfl, rfl, rfl, rfl, rfl, rfl, rfl, rfl, rfl, rfl, rfl, rfl, rfl, rfl, rfl, rfl, rfl, rfl, rfl, rfl, rfl, rfl, rfl, trivial⟩, hM⟩
           · have hb81' := of_decide_eq_false hb81
             refine seq_do (v := .bool false) hA rfl rfl rfl (does_bin rfl rfl (fun w => (bin_lss w).trans (by rw [hb81]))) ?_
             intro a hA
             refine seq_do (v := .bool false) hA rfl rfl rfl (does_pick rfl rfl rfl rfl) ?_
             intro a hA
             refine seq_do hA rfl rfl rfl (does_move rfl) ?_
             intro a hA
             refine seq_skip hA rfl rfl rfl ?_
             intro a hA
             refine seq_skip hA rfl rfl rfl ?_
             intro a hA
             refine seq_skip hA rfl rfl rfl ?_
             intro a hA
             refine seq_skip hA rfl rfl rfl ?_
             intro a hA
             refine seq_skip hA rfl rfl rfl ?_
             intro a hA
             refine seq_skip hA rfl rfl rfl ?_
             intro a hA
             refine seq_do (v := .bool false) hA rfl rfl rfl (does_pick rfl rfl rfl rfl) ?_
             intro a hA
             refine seq_do hA rfl rfl rfl (does_move rfl) ?_
             intro a hA
             refine seq_skip hA rfl rfl rfl ?_
             intro a hA
             refine seq_skip hA rfl rfl rfl ?_
             intro a hA
             refine seq_skip hA rfl rfl rfl ?_
             intro a hA
             refine seq_skip hA rfl rfl rfl ?_
             intro a hA
             refine seq_skip hA rfl rfl rfl ?_
             intro a hA
             refine seq_skip hA rfl rfl rfl ?_
             intro a hA
             refine seq_do (v := .bool false) hA rfl rfl rfl (does_pick rfl rfl rfl rfl) ?_
             intro a hA
             refine seq_do hA rfl rfl rfl (does_assign rfl) ?_
             intro a hA
             refine seq_end ?_
             refine hK79 _ _ ?_
             refine wp_cond_false (hA.ev rfl) ?_
             refine wp_region_lit ?_
             refine seq_do hA rfl rfl rfl (does_move rfl) ?_
             intro a hA
             refine seq_do hA rfl rfl rfl (does_move rfl) ?_
             intro a hA
             refine seq_do (v := .agg #[.int .i32 0, .bool true, .int .i64 (((0 + 2 * i2 : Nat) : Int))]) hA rfl rfl rfl (does_build rfl (fun w => by kernel_rfl)) ?_
             intro a hA
             refine s_litE (e := 78) (sz := 3) (m := 1) (vs := [.int .i32 0, .bool true, .int .i64 (((0 + 2 * i2 : Nat) : Int))]) hA hM rfl rfl rfl (does_buildSlice rfl (by kernel_rfl)) rfl rfl (.inl (by decide)) ?_
             intro g97 w98 hM a hA
             refine s_appendE (e := 78) (sz := 3) (k := 2) (q := acc.length) (m := 1) (xs := (unitV acc)) (news := [.int .i32 0, .bool true, .int .i64 (((0 + 2 * i2 : Nat) : Int))]) (L' := fun v99 => (.row 78 3 (.slice (some ⟨g97, 0, none⟩) 1 1) 1 ([.int .i32 0, .bool true, .int .i64 (((0 + 2 * i2 : Nat) : Int))]) :: .row 21 1 (.slice sn q cn) q ((runeV (numsL hi2 l 0 q))) :: .row 78 3 (v99) (acc.length + 1) ((unitV acc) ++ [.int .i32 0, .bool true, .int .i64 (((0 + 2 * i2 : Nat) : Int))]) :: [])) hA rfl rfl rfl (m_appendE (z := .agg #[.int .i32 0, .bool false, .int .i64 0]) (sz := 3) (by_ := 16) Try.underlying75 (by kernel_rfl) rfl rfl rfl hM 2 rfl rfl 0 rfl rfl rfl rfl (by omega)) (fun _ => rfl) ?_
             intro v99 w100 hM a hA
             refine seq_do hA rfl rfl rfl (does_assign rfl) ?_
             intro a hA
             refine seq_end ?_
             refine hK65 _ _ ?_
             refine wp_region_lit ?_
             refine seq_do hA rfl rfl rfl (does_move rfl) ?_
             intro a hA
             refine seq_do (v := .int .i64 (((i2 + 1 : Nat) : Int))) hA rfl rfl rfl (does_bin rfl rfl (ar_add ((in_i64 (by omega) (by omega)).trans (by omega)))) ?_
             intro a hA
             refine seq_do hA rfl rfl rfl (does_assign rfl) ?_
             intro a hA
             refine seq_end ?_
             replace hM : Mg w w100 (.row 21 1 (.slice sn q cn) q ((runeV (numsL hi2 l 0 q))) :: .row 78 3 (v99) ((acc ++ [(((0 + 2 * i2 : Nat) : Int), -1)]).length) ((unitV (acc ++ [(((0 + 2 * i2 : Nat) : Int), -1)]))) :: []) := by
               have h9 := hM.sub (.cons _ (.cons_cons _ (.cons_cons _ (.refl _))))
               rw [unitV_snoc_bad, List.length_append]
               exact h9
             refine hK60 _ _ _ (by omega) ⟨i2 + 1, acc ++ [(((0 + 2 * i2 : Nat) : Int), -1)], v99, rfl, ⟨by rw [← hrun, pair_bad (g := hi2) (l := l) (p := 0 + 2 * i2) (by omega) hn (by omega) (by omega) (fun _ _ => by exfalso; omega), show 0 + 2 * (i2 + 1) = 0 + 2 * i2 + 2 from by omega, List.append_assoc]; rfl, by omega, by rw [List.length_append]; simp only [List.length_cons, List.length_nil]; omega⟩, hA.keep _ ⟨rfl, rfl, rfl, rfl, rfl, rfl, rfl, rfl, rfl, rfl, rfl, rfl, rfl, rfl, rfl, rfl, rfl, rfl, rfl, rfl, rfl, rfl, rfl, rfl, rfl, rfl, rfl, rfl, rfl, rfl, rfl, rfl, rfl, rfl, rfl, rfl, rfl, rfl, rfl, rfl, trivial⟩, hM⟩
         · have hb80' := of_decide_eq_false hb80
           refine seq_do (v := .bool false) hA rfl rfl rfl (does_bin rfl rfl (fun w => (bin_leq w).trans (by rw [hb80]))) ?_
           intro a hA
           refine seq_do hA rfl rfl rfl (does_move rfl) ?_
           intro a hA
           refine seq_skip hA rfl rfl rfl ?_
           intro a hA
           refine seq_skip hA rfl rfl rfl ?_
           intro a hA
           refine seq_skip hA rfl rfl rfl ?_
           intro a hA
           refine seq_skip hA rfl rfl rfl ?_
           intro a hA
           refine seq_skip hA rfl rfl rfl ?_
           intro a hA
           refine seq_do (v := .bool false) hA rfl rfl rfl (does_pick rfl rfl rfl rfl) ?_
           intro a hA
           refine seq_do hA rfl rfl rfl (does_move rfl) ?_
           intro a hA
           refine seq_skip hA rfl rfl rfl ?_
           intro a hA
           refine seq_skip hA rfl rfl rfl ?_
           intro a hA
           refine seq_skip hA rfl rfl rfl ?_
           intro a hA
           refine seq_skip hA rfl rfl rfl ?_
           intro a hA
           refine seq_skip hA rfl rfl rfl ?_
           intro a hA
           refine seq_skip hA rfl rfl rfl ?_
           intro a hA
           refine seq_do (v := .bool false) hA rfl rfl rfl (does_pick rfl rfl rfl rfl) ?_
           intro a hA
           refine seq_do hA rfl rfl rfl (does_move rfl) ?_
           intro a hA
           refine seq_skip hA rfl rfl rfl ?_
           intro a hA
           refine seq_skip hA rfl rfl rfl ?_
           intro a hA
           refine seq_skip hA rfl rfl rfl ?_
           intro a hA
           refine seq_skip hA rfl rfl rfl ?_
           intro a hA
           refine seq_skip hA rfl rfl rfl ?_
           intro a hA
           refine seq_skip hA rfl rfl rfl ?_
           intro a hA
           refine seq_do (v := .bool false) hA rfl rfl rfl (does_pick rfl rfl rfl rfl) ?_
           intro a hA
           refine seq_do hA rfl rfl rfl (does_assign rfl) ?_
           intro a hA
           refine seq_end ?_
           refine hK79 _ _ ?_
           refine wp_cond_false (hA.ev rfl) ?_
           refine wp_region_lit ?_
           refine seq_do hA rfl rfl rfl (does_move rfl) ?_
           intro a hA
           refine seq_do hA rfl rfl rfl (does_move rfl) ?_
           intro a hA
           refine seq_do (v := .agg #[.int .i32 0, .bool true, .int .i64 (((0 + 2 * i2 : Nat) : Int))]) hA rfl rfl rfl (does_build rfl (fun w => by kernel_rfl)) ?_
           intro a hA
           refine s_litE (e := 78) (sz := 3) (m := 1) (vs := [.int .i32 0, .bool true, .int .i64 (((0 + 2 * i2 : Nat) : Int))]) hA hM rfl rfl rfl (does_buildSlice rfl (by kernel_rfl)) rfl rfl (.inl (by decide)) ?_
           intro g101 w102 hM a hA
           refine s_appendE (e := 78) (sz := 3) (k := 2) (q := acc.length) (m := 1) (xs := (unitV acc)) (news := [.int .i32 0, .bool true, .int .i64 (((0 + 2 * i2 : Nat) : Int))]) (L' := fun v103 => (.row 78 3 (.slice (some ⟨g101, 0, none⟩) 1 1) 1 ([.int .i32 0, .bool true, .int .i64 (((0 + 2 * i2 : Nat) : Int))]) :: .row 21 1 (.slice sn q cn) q ((runeV (numsL hi2 l 0 q))) :: .row 78 3 (v103) (acc.length + 1) ((unitV acc) ++ [.int .i32 0, .bool true, .int .i64 (((0 + 2 * i2 : Nat) : Int))]) :: [])) hA rfl rfl rfl (m_appendE (z := .agg #[.int .i32 0, .bool false, .int .i64 0]) (sz := 3) (by_ := 16) Try.underlying75 (by kernel_rfl) rfl rfl rfl hM 2 rfl rfl 0 rfl rfl rfl rfl (by omega)) (fun _ => rfl) ?_
           intro v103 w104 hM a hA
           refine seq_do hA rfl rfl rfl (does_assign rfl) ?_
           intro a hA
           refine seq_end ?_
           refine hK65 _ _ ?_
           refine wp_region_lit ?_
           refine seq_do hA rfl rfl rfl (does_move rfl) ?_
           intro a hA
           refine seq_do (v := .int .i64 (((i2 + 1 : Nat) : Int))) hA rfl rfl rfl (does_bin rfl rfl (ar_add ((in_i64 (by omega) (by omega)).trans (by omega)))) ?_
           intro a hA
           refine seq_do hA rfl rfl rfl (does_assign rfl) ?_
           intro a hA
           refine seq_end ?_
           replace hM : Mg w w104 (.row 21 1 (.slice sn q cn) q ((runeV (numsL hi2 l 0 q))) :: .row 78 3 (v103) ((acc ++ [(((0 + 2 * i2 : Nat) : Int), -1)]).length) ((unitV (acc ++ [(((0 + 2 * i2 : Nat) : Int), -1)]))) :: []) := by
             have h9 := hM.sub (.cons _ (.cons_cons _ (.cons_cons _ (.refl _))))
             rw [unitV_snoc_bad, List.length_append]
             exact h9
           refine hK60 _ _ _ (by omega) ⟨i2 + 1, acc ++ [(((0 + 2 * i2 : Nat) : Int), -1)], v103, rfl, ⟨by rw [← hrun, pair_bad (g := hi2) (l := l) (p := 0 + 2 * i2) (by omega) hn (by omega) (by omega) (fun _ _ => by exfalso; omega), show 0 + 2 * (i2 + 1) = 0 + 2 * i2 + 2 from by omega, List.append_assoc]; rfl, by omega, by rw [List.length_append]; simp only [List.length_cons, List.length_nil]; omega⟩, hA.keep _ ⟨rfl, rfl, rfl, rfl, rfl, rfl, rfl, rfl, rfl, rfl, rfl, rfl, rfl, rfl, rfl, rfl, rfl, rfl, rfl, rfl, rfl, rfl, rfl, rfl, rfl, rfl, rfl, rfl, rfl, rfl, rfl, rfl, rfl, rfl, rfl, rfl, rfl, rfl, rfl, rfl, trivial⟩, hM⟩
   · have hb64' := of_decide_eq_false hb64
     refine seq_do (v := .bool false) hA rfl rfl rfl (does_bin rfl rfl (fun w => (bin_lss w).trans (by rw [hb64]))) ?_
     intro a hA
     refine seq_end ?_
     refine hK63 _ _ ?_
     refine wp_cond_false (hA.ev rfl) ?_
     refine wp_exit ?_
     refine hK57 _ _ ?_
     refine wp_seq_k (fun K105 hK105 => ?_)
     refine wp_seq_k (fun K106 hK106 => ?_)
     refine wp_region_lit ?_
     refine seq_do hA rfl rfl rfl (does_move rfl) ?_
     intro a hA
     refine seq_do (v := .int .i64 (((l.length : Nat) : Int))) hA rfl rfl rfl (does_len Try.underlying24 rfl) ?_
     intro a hA
     refine seq_do hA rfl rfl rfl (does_move rfl) ?_
     intro a hA
     refine seq_do (v := .int .i64 ((((l.length) - 0 : Nat) : Int))) hA rfl rfl rfl (does_bin rfl rfl (ar_sub ((in_i64 (by omega) (by omega)).trans (by omega)))) ?_
     intro a hA
     refine seq_do (v := .int .i64 (((((l.length) - 0) % 2 : Nat) : Int))) hA rfl rfl rfl (does_bin rfl rfl (ar_rem (by decide) ((Int.tmod_eq_emod_of_nonneg (by omega)).trans (by omega)))) ?_
     intro a hA
     rcases Bool.eq_false_or_eq_true ((((((l.length) - 0) % 2 : Nat) : Int) == 1)) with hb107 | hb107
     · have hb107' := eq_of_beq hb107
       refine seq_do (v := .bool true) hA rfl rfl rfl (does_bin rfl rfl (fun w => (bin_eql w).trans (by rw [hb107]))) ?_
       intro a hA
       refine seq_end ?_
       refine hK106 _ _ ?_
       refine wp_cond_true (hA.ev rfl) ?_
       refine wp_region_lit ?_
       refine seq_do hA rfl rfl rfl (does_move rfl) ?_
       intro a hA
       refine seq_do hA rfl rfl rfl (does_move rfl) ?_
       intro a hA
       refine seq_do (v := .int .i64 (((l.length : Nat) : Int))) hA rfl rfl rfl (does_len Try.underlying24 rfl) ?_
       intro a hA
       refine seq_do (v := .int .i64 ((((l.length) - 1 : Nat) : Int))) hA rfl rfl rfl (does_bin rfl rfl (ar_sub ((in_i64 (by omega) (by omega)).trans (by omega)))) ?_
       intro a hA
       refine seq_do (v := .agg #[.int .i32 0, .bool true, .int .i64 ((((l.length) - 1 : Nat) : Int))]) hA rfl rfl rfl (does_build rfl (fun w => by kernel_rfl)) ?_
       intro a hA
       refine s_litE (e := 78) (sz := 3) (m := 1) (vs := [.int .i32 0, .bool true, .int .i64 ((((l.length) - 1 : Nat) : Int))]) hA hM rfl rfl rfl (does_buildSlice rfl (by kernel_rfl)) rfl rfl (.inl (by decide)) ?_
       intro g108 w109 hM a hA
       refine s_appendE (e := 78) (sz := 3) (k := 2) (q := acc.length) (m := 1) (xs := (unitV acc)) (news := [.int .i32 0, .bool true, .int .i64 ((((l.length) - 1 : Nat) : Int))]) (L' := fun v110 => (.row 78 3 (.slice (some ⟨g108, 0, none⟩) 1 1) 1 ([.int .i32 0, .bool true, .int .i64 ((((l.length) - 1 : Nat) : Int))]) :: .row 21 1 (.slice sn q cn) q ((runeV (numsL hi2 l 0 q))) :: .row 78 3 (v110) (acc.length + 1) ((unitV acc) ++ [.int .i32 0, .bool true, .int .i64 ((((l.length) - 1 : Nat) : Int))]) :: [])) hA rfl rfl rfl (m_appendE (z := .agg #[.int .i32 0, .bool false, .int .i64 0]) (sz := 3) (by_ := 16) Try.underlying75 (by kernel_rfl) rfl rfl rfl hM 2 rfl rfl 0 rfl rfl rfl rfl (by omega)) (fun _ => rfl) ?_
       intro v110 w111 hM a hA
       refine seq_do hA rfl rfl rfl (does_assign rfl) ?_
       intro a hA
       refine seq_end ?_
       refine hK105 _ _ ?_
       refine wp_seq_k (fun K112 hK112 => ?_)
       refine wp_region_lit ?_
       refine seq_do hA rfl rfl rfl (does_move rfl) ?_
       intro a hA
       refine seq_do hA rfl rfl rfl (does_assign rfl) ?_
       intro a hA
       refine seq_end ?_
       refine hK112 _ _ ?_
       refine wp_ret ?_
       refine hret _ _ ?_
       refine ends (v := v110) hA rfl (.cons (res_tmp rfl) .nil) rfl ?_
       replace hM : Mg w w111 (.row 21 1 (.slice sn q cn) q ((runeV (numsL hi2 l 0 q))) :: .row 78 3 (v110) ((acc ++ [((((l.length) - 1 : Nat) : Int), -1)]).length) ((unitV (acc ++ [((((l.length) - 1 : Nat) : Int), -1)]))) :: []) := by
         have h9 := hM.sub (.cons _ (.cons_cons _ (.cons_cons _ (.refl _))))
         rw [unitV_snoc_bad, List.length_append]
         exact h9
       have he9 := pair_end (g := hi2) (l := l) (p := 0 + 2 * i2) (by omega)
       rw [he9, show ((0 + 2 * i2 : Nat) : Int) = (((l.length) - 1 : Nat) : Int) from by omega] at hrun
       rw [← hrun]
       exact ⟨_, rfl, hM.sub (.cons _ (.cons_cons _ (.refl _)))⟩
     · have hb107' := ne_of_beq_false hb107
       refine seq_do (v := .bool false) hA rfl rfl rfl (does_bin rfl rfl (fun w => (bin_eql w).trans (by rw [hb107]))) ?_
       intro a hA
       refine seq_end ?_
       refine hK106 _ _ ?_
       refine wp_cond_false (hA.ev rfl) ?_
       refine wp_skip ?_
       refine hK105 _ _ ?_
       refine wp_seq_k (fun K113 hK113 => ?_)
       refine wp_region_lit ?_
       refine seq_do hA rfl rfl rfl (does_move rfl) ?_
       intro a hA
       refine seq_do hA rfl rfl rfl (does_assign rfl) ?_
       intro a hA
       refine seq_end ?_
       refine hK113 _ _ ?_
       refine wp_ret ?_
       refine hret _ _ ?_
       refine ends (v := vo) hA rfl (.cons (res_tmp rfl) .nil) rfl ?_
       rw [restW_over (by omega), List.append_nil] at hrun
       subst hrun
       exact ⟨_, rfl, hM.sub (.cons _ (.cons_cons _ (.refl _)))⟩
end Go.Proofs.Ytcjgjbaadmohbaa
