/- Walks of the document's utf16. -/
import Derived.Test.YtcjgjbaadmohbaaCpC
namespace Go.Proofs.Ytcjgjbaadmohbaa
open Go.RowKit
set_option linter.unusedVariables false
set_option linter.unusedSimpArgs false
set_option maxRecDepth 100000
theorem CpE_is1_21 : Is1 Try.prog 21 := ⟨⟨_, Try.underlying21, rfl⟩, by kernel_rfl⟩
theorem CpE_is1_5 : Is1 Try.prog 5 := ⟨⟨_, Try.underlying5, rfl⟩, by kernel_rfl⟩
set_option maxHeartbeats 4000000 in
theorem rutf16_p2 {w : World} {so : Option Addr} {cap : Nat} {l : List UInt8} (hb : Rb w so l) (hlen : l.length ≤ 1000000) (klen : (decide (2 ≤ ((l.length : Nat) : Int))) = true) (ka : (((((l.getD (0) 0).toNat : Nat) : Int) == 254)) = true) (kb : (((((l.getD (1) 0).toNat : Nat) : Int) == 255)) = false) (kc : (((((l.getD (0) 0).toNat : Nat) : Int) == 255)) = false) : Calls Try.prog 71 #[.slice so l.length cap] w fun e w' => ∃ v, e = .returned v ∧ Mg w w' [.row 78 3 v (unitsW l).length (unitV (unitsW l))] := by
 have klen' := of_decide_eq_true klen
 have ka' := eq_of_beq ka
 have kb' := ne_of_beq_false kb
 have kc' := ne_of_beq_false kc
 have hM : Mg w w ([]) := Mg.start w
 refine walk_of (l := [(0, .slice so l.length cap)]) Try.func71 rfl Try.ntmps71 rfl rfl ?_
 intro Q hret hnorm hP a hA
 refine wp_seq_k (fun K1 hK1 => ?_)
 refine wp_region_lit ?_
 refine seq_do hA rfl rfl rfl (does_assign rfl) ?_
 intro a hA
 refine seq_end ?_
 refine hK1 _ _ ?_
 refine wp_seq_k (fun K2 hK2 => ?_)
 refine wp_region_lit ?_
 refine s_litE (e := 78) (sz := 3) (m := 0) (vs := []) hA hM rfl rfl rfl (does_buildSlice rfl (by kernel_rfl)) rfl rfl (.inl (by decide)) ?_
 intro g3 w4 hM a hA
 refine seq_do hA rfl rfl rfl (does_assign rfl) ?_
 intro a hA
 refine seq_end ?_
 refine hK2 _ _ ?_
 refine wp_seq_k (fun K5 hK5 => ?_)
 refine wp_region_lit ?_
 refine seq_do hA rfl rfl rfl (does_assign rfl) ?_
 intro a hA
 refine seq_end ?_
 refine hK5 _ _ ?_
 refine wp_seq_k (fun K6 hK6 => ?_)
 refine wp_region_lit ?_
 refine seq_do hA rfl rfl rfl (does_assign rfl) ?_
 intro a hA
 refine seq_end ?_
 refine hK6 _ _ ?_
 refine wp_seq_k (fun K7 hK7 => ?_)
 refine wp_seq_k (fun K8 hK8 => ?_)
 refine wp_region_lit ?_
 refine seq_do hA rfl rfl rfl (does_move rfl) ?_
 intro a hA
 refine seq_do (v := .int .i64 (((l.length : Nat) : Int))) hA rfl rfl rfl (does_len Try.underlying24 rfl) ?_
 intro a hA
 refine seq_do (v := .bool true) hA rfl rfl rfl (does_bin rfl rfl (fun w => (bin_geq w).trans (by rw [show (decide (2 ≤ ((l.length : Nat) : Int))) = true from klen]))) ?_
 intro a hA
 refine seq_do hA rfl rfl rfl (does_move rfl) ?_
 intro a hA
 refine seq_do hA rfl rfl rfl (does_move rfl) ?_
 intro a hA
 obtain ⟨bx9, ox10, hxa11, hxb12, hxc13⟩ := rb_open (i := 0) hb (by omega)
 refine seq_do (v := .pointer (some ⟨bx9, ox10 + (0), none⟩)) hA rfl rfl rfl (does_indexRow Try.underlying24 (by kernel_rfl) rfl rfl rfl hxa11 (show 0 < l.length by omega)) ?_
 intro a hA
 refine seq_do (v := .int .u8 ((((l.getD (0) 0).toNat : Nat) : Int))) hA rfl rfl rfl (m_loadR hM hxb12 (hxc13 (0) (by omega)) CpE_is1_5 rfl) ?_
 intro a hA
 have hu14 := (l.getD (0) 0).toNat_lt
 refine seq_do (v := .bool true) hA rfl rfl rfl (does_bin rfl rfl (fun w => (bin_eql w).trans (by rw [show (((((l.getD (0) 0).toNat : Nat) : Int) == 254)) = true from ka]))) ?_
 intro a hA
 refine seq_do (v := .bool true) hA rfl rfl rfl (does_pick rfl rfl rfl rfl) ?_
 intro a hA
 refine seq_do hA rfl rfl rfl (does_move rfl) ?_
 intro a hA
 refine seq_do hA rfl rfl rfl (does_move rfl) ?_
 intro a hA
 obtain ⟨bx15, ox16, hxa17, hxb18, hxc19⟩ := rb_open (i := 1) hb (by omega)
 refine seq_do (v := .pointer (some ⟨bx15, ox16 + (1), none⟩)) hA rfl rfl rfl (does_indexRow Try.underlying24 (by kernel_rfl) rfl rfl rfl hxa17 (show 1 < l.length by omega)) ?_
 intro a hA
 refine seq_do (v := .int .u8 ((((l.getD (1) 0).toNat : Nat) : Int))) hA rfl rfl rfl (m_loadR hM hxb18 (hxc19 (1) (by omega)) CpE_is1_5 rfl) ?_
 intro a hA
 have hu20 := (l.getD (1) 0).toNat_lt
 refine seq_do (v := .bool false) hA rfl rfl rfl (does_bin rfl rfl (fun w => (bin_eql w).trans (by rw [show (((((l.getD (1) 0).toNat : Nat) : Int) == 255)) = false from kb]))) ?_
 intro a hA
 refine seq_do (v := .bool false) hA rfl rfl rfl (does_pick rfl rfl rfl rfl) ?_
 intro a hA
 refine seq_end ?_
 refine hK8 _ _ ?_
 refine wp_cond_false (hA.ev rfl) ?_
 refine wp_skip ?_
 refine hK7 _ _ ?_
 refine wp_seq_k (fun K21 hK21 => ?_)
 refine wp_seq_k (fun K22 hK22 => ?_)
 refine wp_region_lit ?_
 refine seq_do hA rfl rfl rfl (does_move rfl) ?_
 intro a hA
 refine seq_do (v := .int .i64 (((l.length : Nat) : Int))) hA rfl rfl rfl (does_len Try.underlying24 rfl) ?_
 intro a hA
 refine seq_do (v := .bool true) hA rfl rfl rfl (does_bin rfl rfl (fun w => (bin_geq w).trans (by rw [show (decide (2 ≤ ((l.length : Nat) : Int))) = true from klen]))) ?_
 intro a hA
 refine seq_do hA rfl rfl rfl (does_move rfl) ?_
 intro a hA
 refine seq_do hA rfl rfl rfl (does_move rfl) ?_
 intro a hA
 obtain ⟨bx23, ox24, hxa25, hxb26, hxc27⟩ := rb_open (i := 0) hb (by omega)
 refine seq_do (v := .pointer (some ⟨bx23, ox24 + (0), none⟩)) hA rfl rfl rfl (does_indexRow Try.underlying24 (by kernel_rfl) rfl rfl rfl hxa25 (show 0 < l.length by omega)) ?_
 intro a hA
 refine seq_do (v := .int .u8 ((((l.getD (0) 0).toNat : Nat) : Int))) hA rfl rfl rfl (m_loadR hM hxb26 (hxc27 (0) (by omega)) CpE_is1_5 rfl) ?_
 intro a hA
 have hu28 := (l.getD (0) 0).toNat_lt
 refine seq_do (v := .bool false) hA rfl rfl rfl (does_bin rfl rfl (fun w => (bin_eql w).trans (by rw [show (((((l.getD (0) 0).toNat : Nat) : Int) == 255)) = false from kc]))) ?_
 intro a hA
 refine seq_do (v := .bool false) hA rfl rfl rfl (does_pick rfl rfl rfl rfl) ?_
 intro a hA
 refine seq_do hA rfl rfl rfl (does_move rfl) ?_
 intro a hA
 refine seq_skip hA rfl rfl rfl ?_
 intro a hA
 refine seq_skip hA rfl rfl rfl ?_
 intro a hA
 refine seq_skip hA rfl rfl rfl ?_
 intro a hA
 refine seq_skip hA rfl rfl rfl ?_
 intro a hA
 refine seq_do (v := .bool false) hA rfl rfl rfl (does_pick rfl rfl rfl rfl) ?_
 intro a hA
 refine seq_end ?_
 refine hK22 _ _ ?_
 refine wp_cond_false (hA.ev rfl) ?_
 refine wp_skip ?_
 refine hK21 _ _ ?_
 refine wp_seq_k (fun K29 hK29 => ?_)
 refine wp_region_lit ?_
 refine s_litE (e := 21) (sz := 1) (m := 0) (vs := []) hA hM rfl rfl rfl (does_buildSlice rfl (by kernel_rfl)) rfl rfl (.inl (by decide)) ?_
 intro g30 w31 hM a hA
 refine seq_do hA rfl rfl rfl (does_assign rfl) ?_
 intro a hA
 refine seq_end ?_
 refine hK29 _ _ ?_
 refine wp_seq_k (fun K32 hK32 => ?_)
 refine wp_region_lit ?_
 refine seq_do hA rfl rfl rfl (does_move rfl) ?_
 intro a hA
 refine seq_do hA rfl rfl rfl (does_assign rfl) ?_
 intro a hA
 refine seq_end ?_
 refine hK32 _ _ ?_
 refine wp_seq_k (fun K33 hK33 => ?_)
 refine wp_seq_k (fun K34 hK34 => ?_)
 refine wp_region_lit ?_
 refine seq_do hA rfl rfl rfl (does_move rfl) ?_
 intro a hA
 refine seq_do hA rfl rfl rfl (does_assign rfl) ?_
 intro a hA
 refine seq_end ?_
 refine hK34 _ _ ?_
 refine wp_block ?_
 refine wp_loop_n (fun m_ a w1 => ∃ (q : Nat) (sn : Option Addr) (cn : Nat), m_ = l.length - q ∧ (0 + 2 * q ≤ l.length ∨ q = 0) ∧ Sl a 175 [(0, .slice so l.length cap), (2, .slice none 0 0), (3, .slice (some ⟨g3, 0, none⟩) 0 0), (4, .int .i64 0), (5, .bool false), (6, .slice sn q cn), (7, .int .i64 0), (8, .int .i64 (((0 + 2 * q : Nat) : Int))), (13, .slice (some ⟨g3, 0, none⟩) 0 0), (14, .slice so l.length cap), (15, .int .i64 (((l.length : Nat) : Int))), (16, .bool true), (17, .bool true), (18, .slice so l.length cap), (19, .pointer (some ⟨bx9, ox10 + (0), none⟩)), (20, .int .u8 ((((l.getD (0) 0).toNat : Nat) : Int))), (21, .bool true), (22, .bool true), (23, .bool true), (24, .slice so l.length cap), (25, .pointer (some ⟨bx15, ox16 + (1), none⟩)), (26, .int .u8 ((((l.getD (1) 0).toNat : Nat) : Int))), (27, .bool false), (28, .bool false), (29, .slice so l.length cap), (30, .int .i64 (((l.length : Nat) : Int))), (31, .bool true), (32, .bool true), (33, .slice so l.length cap), (34, .pointer (some ⟨bx23, ox24 + (0), none⟩)), (35, .int .u8 ((((l.getD (0) 0).toNat : Nat) : Int))), (36, .bool false), (37, .bool false), (38, .bool false), (43, .bool false), (44, .slice (some ⟨g30, 0, none⟩) 0 0), (45, .int .i64 0), (46, .int .i64 0)] ∧ Mg w w1 (.row 21 1 (.slice sn q cn) q ((runeV (numsL hi2 l 0 q))) :: .row 78 3 (.slice (some ⟨g3, 0, none⟩) 0 0) 0 ([]) :: [])) _ ⟨0, some ⟨g30, 0, none⟩, 0, rfl, by omega, hA.keep _ ⟨rfl, rfl, rfl, rfl, rfl, rfl, rfl, rfl, rfl, rfl, rfl, rfl, rfl, rfl, rfl, rfl, rfl, rfl, rfl, rfl, rfl, rfl, rfl, rfl, rfl, rfl, rfl, rfl, rfl, rfl, rfl, rfl, rfl, rfl, rfl, rfl, rfl, rfl, trivial⟩, hM⟩ ?_
 clear hM hA
 rintro m_ a w35 ⟨q, sn, cn, rfl, hinv37, hA, hM⟩ K36 hK36
 refine wp_seq_k (fun K38 hK38 => ?_)
 refine wp_seq_k (fun K39 hK39 => ?_)
 refine wp_region_lit ?_
 refine seq_do hA rfl rfl rfl (does_move rfl) ?_
 intro a hA
 refine seq_do (v := .int .i64 (((0 + 2 * q + 1 : Nat) : Int))) hA rfl rfl rfl (does_bin rfl rfl (ar_add ((in_i64 (by omega) (by omega)).trans (by omega)))) ?_
 intro a hA
 refine seq_do hA rfl rfl rfl (does_move rfl) ?_
 intro a hA
 refine seq_do (v := .int .i64 (((l.length : Nat) : Int))) hA rfl rfl rfl (does_len Try.underlying24 rfl) ?_
 intro a hA
 rcases Bool.eq_false_or_eq_true (decide (((0 + 2 * q + 1 : Nat) : Int) < ((l.length : Nat) : Int))) with hb40 | hb40
 · have hb40' := of_decide_eq_true hb40
   refine seq_do (v := .bool true) hA rfl rfl rfl (does_bin rfl rfl (fun w => (bin_lss w).trans (by rw [hb40]))) ?_
   intro a hA
   refine seq_end ?_
   refine hK39 _ _ ?_
   refine wp_cond_true (hA.ev rfl) ?_
   refine wp_skip ?_
   refine hK38 _ _ ?_
   refine wp_seq_k (fun K41 hK41 => ?_)
   refine wp_block ?_
   refine wp_seq_k (fun K42 hK42 => ?_)
   refine wp_draw (S := fun w1 => Mg w w1 ([])) (by kernel_rfl) ?_
   replace hM := hM.drew
   refine any_tk hA 0 rfl rfl rfl rfl hP (hM.sub (.cons _ (.cons _ (List.nil_sublist _)))) (fun w1 hM => does_move rfl) ?_
   intro a hA
   refine any_tk hA 1 rfl rfl rfl rfl hP (hM.sub (.cons _ (.cons _ (List.nil_sublist _)))) (fun w1 hM => does_move rfl) ?_
   intro a hA
   obtain ⟨bx43, ox44, hxa45, hxb46, hxc47⟩ := rb_open (i := 0 + 2 * q) hb (by omega)
   refine any_tk (v := .pointer (some ⟨bx43, ox44 + (0 + 2 * q), none⟩)) hA 2 rfl rfl rfl rfl hP (hM.sub (.cons _ (.cons _ (List.nil_sublist _)))) (fun w1 hM => does_indexRow Try.underlying24 (by kernel_rfl) rfl rfl rfl hxa45 (show 0 + 2 * q < l.length by omega)) ?_
   intro a hA
   refine any_tk (v := .int .u8 ((((l.getD (0 + 2 * q) 0).toNat : Nat) : Int))) hA 3 rfl rfl rfl rfl hP (hM.sub (.cons _ (.cons _ (List.nil_sublist _)))) (fun w1 hM => m_loadR hM hxb46 (hxc47 (0 + 2 * q) (by omega)) CpE_is1_5 rfl) ?_
   intro a hA
   have hu48 := (l.getD (0 + 2 * q) 0).toNat_lt
   refine any_tk (v := .int .i32 ((((l.getD (0 + 2 * q) 0).toNat : Nat) : Int))) hA 4 rfl rfl rfl rfl hP (hM.sub (.cons _ (.cons _ (List.nil_sublist _)))) (fun w1 hM => does_convert rfl (ar_conv Try.underlying5 Try.underlying21 (in_i32 (by omega) (by omega)))) ?_
   intro a hA
   refine any_tk (v := .int .i32 ((((l.getD (0 + 2 * q) 0).toNat : Nat) : Int) * 256)) hA 5 rfl rfl rfl rfl hP (hM.sub (.cons _ (.cons _ (List.nil_sublist _)))) (fun w1 hM => does_bin rfl rfl (ar_mul (in_i32 (by omega) (by omega)))) ?_
   intro a hA
   refine any_tk hA 6 rfl rfl rfl rfl hP (hM.sub (.cons _ (.cons _ (List.nil_sublist _)))) (fun w1 hM => does_move rfl) ?_
   intro a hA
   refine any_tk hA 7 rfl rfl rfl rfl hP (hM.sub (.cons _ (.cons _ (List.nil_sublist _)))) (fun w1 hM => does_move rfl) ?_
   intro a hA
   refine any_tk (v := .int .i64 (((0 + 2 * q + 1 : Nat) : Int))) hA 8 rfl rfl rfl rfl hP (hM.sub (.cons _ (.cons _ (List.nil_sublist _)))) (fun w1 hM => does_bin rfl rfl (ar_add ((in_i64 (by omega) (by omega)).trans (by omega)))) ?_
   intro a hA
   obtain ⟨bx49, ox50, hxa51, hxb52, hxc53⟩ := rb_open (i := 0 + 2 * q + 1) hb (by omega)
   refine any_tk (v := .pointer (some ⟨bx49, ox50 + (0 + 2 * q + 1), none⟩)) hA 9 rfl rfl rfl rfl hP (hM.sub (.cons _ (.cons _ (List.nil_sublist _)))) (fun w1 hM => does_indexRow Try.underlying24 (by kernel_rfl) rfl rfl rfl hxa51 (show 0 + 2 * q + 1 < l.length by omega)) ?_
   intro a hA
   refine any_tk (v := .int .u8 ((((l.getD (0 + 2 * q + 1) 0).toNat : Nat) : Int))) hA 10 rfl rfl rfl rfl hP (hM.sub (.cons _ (.cons _ (List.nil_sublist _)))) (fun w1 hM => m_loadR hM hxb52 (hxc53 (0 + 2 * q + 1) (by omega)) CpE_is1_5 rfl) ?_
   intro a hA
   have hu54 := (l.getD (0 + 2 * q + 1) 0).toNat_lt
   refine any_tk (v := .int .i32 ((((l.getD (0 + 2 * q + 1) 0).toNat : Nat) : Int))) hA 11 rfl rfl rfl rfl hP (hM.sub (.cons _ (.cons _ (List.nil_sublist _)))) (fun w1 hM => does_convert rfl (ar_conv Try.underlying5 Try.underlying21 (in_i32 (by omega) (by omega)))) ?_
   intro a hA
   refine any_tk (v := .int .i32 (((hi2 (l.getD (0 + 2 * q) 0).toNat (l.getD (0 + 2 * q + 1) 0).toNat : Nat) : Int))) hA 12 rfl rfl rfl rfl hP (hM.sub (.cons _ (.cons _ (List.nil_sublist _)))) (fun w1 hM => does_bin rfl rfl (ar_add ((in_i32 (by omega) (by omega)).trans (by unfold hi2; omega)))) ?_
   intro a hA
   refine any_tk hA 13 rfl rfl rfl rfl hP (hM.sub (.cons _ (.cons _ (List.nil_sublist _)))) (fun w1 hM => does_assign rfl) ?_
   intro a hA
   refine any_end (by kernel_rfl) ?_
   refine hK42 _ _ ?_
   refine wp_seq_k (fun K55 hK55 => ?_)
   refine wp_seq_k (fun K56 hK56 => ?_)
   refine wp_region_lit ?_
   refine seq_do hA rfl rfl rfl (does_move rfl) ?_
   intro a hA
   refine seq_end ?_
   refine hK56 _ _ ?_
   refine wp_cond_false (hA.ev rfl) ?_
   refine wp_skip ?_
   refine hK55 _ _ ?_
   refine wp_region_lit ?_
   refine seq_do hA rfl rfl rfl (does_move rfl) ?_
   intro a hA
   refine seq_do hA rfl rfl rfl (does_move rfl) ?_
   intro a hA
   refine s_litE (e := 21) (sz := 1) (m := 1) (vs := [.int .i32 (((hi2 (l.getD (0 + 2 * q) 0).toNat (l.getD (0 + 2 * q + 1) 0).toNat : Nat) : Int))]) hA hM rfl rfl rfl (does_buildSlice rfl (by kernel_rfl)) rfl rfl (.inl (by decide)) ?_
   intro g57 w58 hM a hA
   refine s_appendE (e := 21) (sz := 1) (k := 1) (q := q) (m := 1) (xs := (runeV (numsL hi2 l 0 q))) (news := [.int .i32 (((hi2 (l.getD (0 + 2 * q) 0).toNat (l.getD (0 + 2 * q + 1) 0).toNat : Nat) : Int))]) (L' := fun v59 => (.row 21 1 (.slice (some ⟨g57, 0, none⟩) 1 1) 1 ([.int .i32 (((hi2 (l.getD (0 + 2 * q) 0).toNat (l.getD (0 + 2 * q + 1) 0).toNat : Nat) : Int))]) :: .row 21 1 (v59) (q + 1) ((runeV (numsL hi2 l 0 q)) ++ [.int .i32 (((hi2 (l.getD (0 + 2 * q) 0).toNat (l.getD (0 + 2 * q + 1) 0).toNat : Nat) : Int))]) :: .row 78 3 (.slice (some ⟨g3, 0, none⟩) 0 0) 0 ([]) :: [])) hA rfl rfl rfl (m_appendE (z := .int .i32 0) (sz := 1) (by_ := 4) Try.underlying74 (by kernel_rfl) rfl rfl rfl hM 1 rfl rfl 0 rfl rfl rfl rfl (by omega)) (fun _ => rfl) ?_
   intro v59 w60 hM a hA
   refine seq_do hA rfl rfl rfl (does_assign rfl) ?_
   intro a hA
   refine seq_end ?_
   refine hK41 _ _ ?_
   refine wp_region_lit ?_
   refine seq_do hA rfl rfl rfl (does_move rfl) ?_
   intro a hA
   refine seq_do (v := .int .i64 (((0 + 2 * q + 2 : Nat) : Int))) hA rfl rfl rfl (does_bin rfl rfl (ar_add ((in_i64 (by omega) (by omega)).trans (by omega)))) ?_
   intro a hA
   refine seq_do hA rfl rfl rfl (does_assign rfl) ?_
   intro a hA
   refine seq_end ?_
   replace hM : Mg w w60 (.row 21 1 (v59) ((q + 1)) ((runeV (numsL hi2 l 0 (q + 1)))) :: .row 78 3 (.slice (some ⟨g3, 0, none⟩) 0 0) 0 ([]) :: []) := by
     have h9 := hM.sub (.cons _ (.cons_cons _ (.cons_cons _ (.refl _))))
     rw [nums_more]
     unfold runeV at h9 ⊢
     rw [List.map_append]
     exact h9
   obtain ⟨so61, ca62, rfl⟩ := owns_sliceE (hM.has 0 rfl)
   refine hK36 _ _ _ (by omega) ⟨q + 1, so61, ca62, rfl, by omega, hA.keep _ ⟨rfl, rfl, rfl, rfl, rfl, rfl, rfl, rfl, rfl, rfl, rfl, rfl, rfl, rfl, rfl, rfl, rfl, rfl, rfl, rfl, rfl, rfl, rfl, rfl, rfl, rfl, rfl, rfl, rfl, rfl, rfl, rfl, rfl, rfl, rfl, rfl, rfl, rfl, trivial⟩, hM⟩
 · have hb40' := of_decide_eq_false hb40
   refine seq_do (v := .bool false) hA rfl rfl rfl (does_bin rfl rfl (fun w => (bin_lss w).trans (by rw [hb40]))) ?_
   intro a hA
   refine seq_end ?_
   refine hK39 _ _ ?_
   refine wp_cond_false (hA.ev rfl) ?_
   refine wp_exit ?_
   refine hK33 _ _ ?_
   refine wp_seq_k (fun K63 hK63 => ?_)
   refine wp_seq_k (fun K64 hK64 => ?_)
   refine wp_region_lit ?_
   refine seq_do hA rfl rfl rfl (does_assign rfl) ?_
   intro a hA
   refine seq_end ?_
   refine hK64 _ _ ?_
   refine wp_block ?_
   refine wp_loop_n (fun m_ a w1 => ∃ (i2 : Nat) (acc : List (Int × Int)) (vo : Value), m_ = q - i2 ∧ (acc ++ restW hi2 l (0 + 2 * i2) = unitsW l ∧ i2 ≤ q ∧ acc.length ≤ i2) ∧ Sl a 175 [(0, .slice so l.length cap), (2, .slice none 0 0), (3, vo), (4, .int .i64 0), (5, .bool false), (6, .slice sn q cn), (7, .int .i64 0), (8, .int .i64 (((0 + 2 * q : Nat) : Int))), (10, .int .i64 (((i2 : Nat) : Int))), (13, .slice (some ⟨g3, 0, none⟩) 0 0), (14, .slice so l.length cap), (15, .int .i64 (((l.length : Nat) : Int))), (16, .bool true), (17, .bool true), (18, .slice so l.length cap), (19, .pointer (some ⟨bx9, ox10 + (0), none⟩)), (20, .int .u8 ((((l.getD (0) 0).toNat : Nat) : Int))), (21, .bool true), (22, .bool true), (23, .bool true), (24, .slice so l.length cap), (25, .pointer (some ⟨bx15, ox16 + (1), none⟩)), (26, .int .u8 ((((l.getD (1) 0).toNat : Nat) : Int))), (27, .bool false), (28, .bool false), (29, .slice so l.length cap), (30, .int .i64 (((l.length : Nat) : Int))), (31, .bool true), (32, .bool true), (33, .slice so l.length cap), (34, .pointer (some ⟨bx23, ox24 + (0), none⟩)), (35, .int .u8 ((((l.getD (0) 0).toNat : Nat) : Int))), (36, .bool false), (37, .bool false), (38, .bool false), (43, .bool false), (44, .slice (some ⟨g30, 0, none⟩) 0 0), (45, .int .i64 0), (46, .int .i64 0), (47, .int .i64 (((0 + 2 * q : Nat) : Int))), (48, .int .i64 (((0 + 2 * q + 1 : Nat) : Int))), (49, .slice so l.length cap), (50, .int .i64 (((l.length : Nat) : Int))), (51, .bool false)] ∧ Mg w w1 (.row 21 1 (.slice sn q cn) q ((runeV (numsL hi2 l 0 q))) :: .row 78 3 (vo) acc.length ((unitV acc)) :: [])) _ ⟨0, [], .slice (some ⟨g3, 0, none⟩) 0 0, rfl, ⟨by rw [Nat.mul_zero, Nat.add_zero, List.nil_append, markW_no (by omega)], Nat.zero_le _, Nat.le_refl _⟩, hA.keep _ ⟨rfl, rfl, rfl, rfl, rfl, rfl, rfl, rfl, rfl, rfl, rfl, rfl, rfl, rfl, rfl, rfl, rfl, rfl, rfl, rfl, rfl, rfl, rfl, rfl, rfl, rfl, rfl, rfl, rfl, rfl, rfl, rfl, rfl, rfl, rfl, rfl, rfl, rfl, rfl, rfl, rfl, rfl, rfl, rfl, trivial⟩, hM⟩ ?_
   clear hM hA
   rintro m_ a w65 ⟨i2, acc, vo, rfl, hinv67, hA, hM⟩ K66 hK66
   obtain ⟨hrun, hi9, hacc⟩ := hinv67
   refine wp_seq_k (fun K68 hK68 => ?_)
   refine wp_seq_k (fun K69 hK69 => ?_)
   refine wp_region_lit ?_
   refine seq_do hA rfl rfl rfl (does_move rfl) ?_
   intro a hA
   refine seq_do hA rfl rfl rfl (does_move rfl) ?_
   intro a hA
   refine seq_do (v := .int .i64 (((q : Nat) : Int))) hA rfl rfl rfl (does_len Try.underlying74 rfl) ?_
   intro a hA
   rcases Bool.eq_false_or_eq_true (decide (((i2 : Nat) : Int) < ((q : Nat) : Int))) with hb70 | hb70
   · have hb70' := of_decide_eq_true hb70
     refine seq_do (v := .bool true) hA rfl rfl rfl (does_bin rfl rfl (fun w => (bin_lss w).trans (by rw [hb70]))) ?_
     intro a hA
     refine seq_end ?_
     refine hK69 _ _ ?_
     refine wp_cond_true (hA.ev rfl) ?_
     refine wp_skip ?_
     refine hK68 _ _ ?_
     refine wp_seq_k (fun K71 hK71 => ?_)
     refine wp_block ?_
     refine wp_seq_k (fun K72 hK72 => ?_)
     refine wp_region_lit ?_
     refine seq_do hA rfl rfl rfl (does_move rfl) ?_
     intro a hA
     refine seq_do hA rfl rfl rfl (does_move rfl) ?_
     intro a hA
     obtain ⟨gn, hgn⟩ := row_addr hM 0 rfl (show 0 < q by omega)
     refine seq_do (v := .pointer (some ⟨gn, (i2) * 1, none⟩)) hA rfl rfl rfl (does_indexX Try.underlying74 (by kernel_rfl) rfl rfl rfl hgn (show i2 < q by omega)) ?_
     intro a hA
     obtain ⟨n, hn⟩ : ∃ n : Nat, hi2 (l.getD (0 + 2 * (i2)) 0).toNat (l.getD (0 + 2 * (i2) + 1) 0).toNat = n := ⟨_, rfl⟩
     have hltn : n < 65536 := hn ▸ hi2_lt _ _
     refine seq_do (v := .int .i32 (((n : Nat) : Int))) hA rfl rfl rfl (m_loadX hM 0 rfl hgn ((nums_at (g := hi2) (l := l) (f := 0) (n := q) (j := i2) (by omega)).trans (by rw [hn])) CpE_is1_21 rfl) ?_
     intro a hA
     refine seq_do hA rfl rfl rfl (does_assign rfl) ?_
     intro a hA
     refine seq_end ?_
     refine hK72 _ _ ?_
     refine wp_seq_k (fun K73 hK73 => ?_)
     refine wp_region_lit ?_
     refine seq_do hA rfl rfl rfl (does_move rfl) ?_
     intro a hA
     refine seq_do hA rfl rfl rfl (does_move rfl) ?_
     intro a hA
     refine seq_do (v := .int .i64 (((2 * i2 : Nat) : Int))) hA rfl rfl rfl (does_bin rfl rfl (ar_mul ((in_i64 (by omega) (by omega)).trans (by omega)))) ?_
     intro a hA
     refine seq_do (v := .int .i64 (((0 + 2 * i2 : Nat) : Int))) hA rfl rfl rfl (does_bin rfl rfl (ar_add ((in_i64 (by omega) (by omega)).trans (by omega)))) ?_
     intro a hA
     refine seq_do hA rfl rfl rfl (does_assign rfl) ?_
     intro a hA
     refine seq_end ?_
     refine hK73 _ _ ?_
     refine wp_block ?_
     refine wp_seq_k (fun K74 hK74 => ?_)
     refine wp_region_lit ?_
     refine seq_do hA rfl rfl rfl (does_move rfl) ?_
     intro a hA
     rcases Bool.eq_false_or_eq_true (decide (((n : Nat) : Int) < 55296)) with hb75 | hb75
     · have hb75' := of_decide_eq_true hb75
       refine seq_do (v := .bool true) hA rfl rfl rfl (does_bin rfl rfl (fun w => (bin_lss w).trans (by rw [hb75]))) ?_
       intro a hA
       refine seq_do hA rfl rfl rfl (does_move rfl) ?_
       intro a hA
       refine seq_skip hA rfl rfl rfl ?_
       intro a hA
       refine seq_skip hA rfl rfl rfl ?_
       intro a hA
       refine seq_do (v := .bool true) hA rfl rfl rfl (does_pick rfl rfl rfl rfl) ?_
       intro a hA
       refine seq_do hA rfl rfl rfl (does_assign rfl) ?_
       intro a hA
       refine seq_end ?_
       refine hK74 _ _ ?_
       refine wp_cond_true (hA.ev rfl) ?_
       refine wp_region_lit ?_
       refine seq_do hA rfl rfl rfl (does_move rfl) ?_
       intro a hA
       refine seq_do hA rfl rfl rfl (does_move rfl) ?_
       intro a hA
       refine seq_do hA rfl rfl rfl (does_move rfl) ?_
       intro a hA
       refine seq_do (v := .agg #[.int .i32 (((n : Nat) : Int)), .bool false, .int .i64 (((0 + 2 * i2 : Nat) : Int))]) hA rfl rfl rfl (does_build rfl (fun w => by kernel_rfl)) ?_
       intro a hA
       refine s_litE (e := 78) (sz := 3) (m := 1) (vs := [.int .i32 (((n : Nat) : Int)), .bool false, .int .i64 (((0 + 2 * i2 : Nat) : Int))]) hA hM rfl rfl rfl (does_buildSlice rfl (by kernel_rfl)) rfl rfl (.inl (by decide)) ?_
       intro g76 w77 hM a hA
       refine s_appendE (e := 78) (sz := 3) (k := 2) (q := acc.length) (m := 1) (xs := (unitV acc)) (news := [.int .i32 (((n : Nat) : Int)), .bool false, .int .i64 (((0 + 2 * i2 : Nat) : Int))]) (L' := fun v78 => (.row 78 3 (.slice (some ⟨g76, 0, none⟩) 1 1) 1 ([.int .i32 (((n : Nat) : Int)), .bool false, .int .i64 (((0 + 2 * i2 : Nat) : Int))]) :: .row 21 1 (.slice sn q cn) q ((runeV (numsL hi2 l 0 q))) :: .row 78 3 (v78) (acc.length + 1) ((unitV acc) ++ [.int .i32 (((n : Nat) : Int)), .bool false, .int .i64 (((0 + 2 * i2 : Nat) : Int))]) :: [])) hA rfl rfl rfl (m_appendE (z := .agg #[.int .i32 0, .bool false, .int .i64 0]) (sz := 3) (by_ := 16) Try.underlying75 (by kernel_rfl) rfl rfl rfl hM 2 rfl rfl 0 rfl rfl rfl rfl (by omega)) (fun _ => rfl) ?_
       intro v78 w79 hM a hA
       refine seq_do hA rfl rfl rfl (does_assign rfl) ?_
       intro a hA
       refine seq_end ?_
       refine hK71 _ _ ?_
       refine wp_region_lit ?_
       refine seq_do hA rfl rfl rfl (does_move rfl) ?_
       intro a hA
       refine seq_do (v := .int .i64 (((i2 + 1 : Nat) : Int))) hA rfl rfl rfl (does_bin rfl rfl (ar_add ((in_i64 (by omega) (by omega)).trans (by omega)))) ?_
       intro a hA
       refine seq_do hA rfl rfl rfl (does_assign rfl) ?_
       intro a hA
       refine seq_end ?_
       replace hM : Mg w w79 (.row 21 1 (.slice sn q cn) q ((runeV (numsL hi2 l 0 q))) :: .row 78 3 (v78) ((acc ++ [(((0 + 2 * i2 : Nat) : Int), ((n : Nat) : Int))]).length) ((unitV (acc ++ [(((0 + 2 * i2 : Nat) : Int), ((n : Nat) : Int))]))) :: []) := by
         have h9 := hM.sub (.cons _ (.cons_cons _ (.cons_cons _ (.refl _))))
         rw [unitV_snoc_good (by omega), List.length_append]
         exact h9
       refine hK66 _ _ _ (by omega) ⟨i2 + 1, acc ++ [(((0 + 2 * i2 : Nat) : Int), ((n : Nat) : Int))], v78, rfl, ⟨by rw [← hrun, pair_one (g := hi2) (l := l) (p := 0 + 2 * i2) (by omega) hn (by omega), show 0 + 2 * (i2 + 1) = 0 + 2 * i2 + 2 from by omega, List.append_assoc]; rfl, by omega, by rw [List.length_append]; simp only [List.length_cons, List.length_nil]; omega⟩, hA.keep _ ⟨rfl, rfl, rfl, rfl, rfl, rfl, rfl, rfl, rfl, rfl, rfl, rfl, rfl, rfl, rfl, rfl, rfl, rfl, rfl, rfl, rfl, rfl, rfl, rfl, rfl, rfl, rfl, rfl, rfl, rfl, rfl, rfl, rfl, rfl, rfl, rfl, rfl, rfl, rfl, rfl, rfl, rfl, rfl, rfl, trivial⟩, hM⟩
     · have hb75' := of_decide_eq_false hb75
       refine seq_do (v := .bool false) hA rfl rfl rfl (does_bin rfl rfl (fun w => (bin_lss w).trans (by rw [hb75]))) ?_
       intro a hA
       refine seq_do hA rfl rfl rfl (does_move rfl) ?_
       intro a hA
       refine seq_do hA rfl rfl rfl (does_move rfl) ?_
       intro a hA
       rcases Bool.eq_false_or_eq_true (decide (57343 < ((n : Nat) : Int))) with hb80 | hb80
       · have hb80' := of_decide_eq_true hb80
         refine seq_do (v := .bool true) hA rfl rfl rfl (does_bin rfl rfl (fun w => (bin_gtr w).trans (by rw [hb80]))) ?_
         intro a hA
         refine seq_do (v := .bool true) hA rfl rfl rfl (does_pick rfl rfl rfl rfl) ?_
         intro a hA
         refine seq_do hA rfl rfl rfl (does_assign rfl) ?_
         intro a hA
         refine seq_end ?_
         refine hK74 _ _ ?_
         refine wp_cond_true (hA.ev rfl) ?_
         refine wp_region_lit ?_
         refine seq_do hA rfl rfl rfl (does_move rfl) ?_
         intro a hA
         refine seq_do hA rfl rfl rfl (does_move rfl) ?_
         intro a hA
         refine seq_do hA rfl rfl rfl (does_move rfl) ?_
         intro a hA
         refine seq_do (v := .agg #[.int .i32 (((n : Nat) : Int)), .bool false, .int .i64 (((0 + 2 * i2 : Nat) : Int))]) hA rfl rfl rfl (does_build rfl (fun w => by kernel_rfl)) ?_
         intro a hA
         refine s_litE (e := 78) (sz := 3) (m := 1) (vs := [.int .i32 (((n : Nat) : Int)), .bool false, .int .i64 (((0 + 2 * i2 : Nat) : Int))]) hA hM rfl rfl rfl (does_buildSlice rfl (by kernel_rfl)) rfl rfl (.inl (by decide)) ?_
         intro g81 w82 hM a hA
         refine s_appendE (e := 78) (sz := 3) (k := 2) (q := acc.length) (m := 1) (xs := (unitV acc)) (news := [.int .i32 (((n : Nat) : Int)), .bool false, .int .i64 (((0 + 2 * i2 : Nat) : Int))]) (L' := fun v83 => (.row 78 3 (.slice (some ⟨g81, 0, none⟩) 1 1) 1 ([.int .i32 (((n : Nat) : Int)), .bool false, .int .i64 (((0 + 2 * i2 : Nat) : Int))]) :: .row 21 1 (.slice sn q cn) q ((runeV (numsL hi2 l 0 q))) :: .row 78 3 (v83) (acc.length + 1) ((unitV acc) ++ [.int .i32 (((n : Nat) : Int)), .bool false, .int .i64 (((0 + 2 * i2 : Nat) : Int))]) :: [])) hA rfl rfl rfl (m_appendE (z := .agg #[.int .i32 0, .bool false, .int .i64 0]) (sz := 3) (by_ := 16) Try.underlying75 (by kernel_rfl) rfl rfl rfl hM 2 rfl rfl 0 rfl rfl rfl rfl (by omega)) (fun _ => rfl) ?_
         intro v83 w84 hM a hA
         refine seq_do hA rfl rfl rfl (does_assign rfl) ?_
         intro a hA
         refine seq_end ?_
         refine hK71 _ _ ?_
         refine wp_region_lit ?_
         refine seq_do hA rfl rfl rfl (does_move rfl) ?_
         intro a hA
         refine seq_do (v := .int .i64 (((i2 + 1 : Nat) : Int))) hA rfl rfl rfl (does_bin rfl rfl (ar_add ((in_i64 (by omega) (by omega)).trans (by omega)))) ?_
         intro a hA
         refine seq_do hA rfl rfl rfl (does_assign rfl) ?_
         intro a hA
         refine seq_end ?_
         replace hM : Mg w w84 (.row 21 1 (.slice sn q cn) q ((runeV (numsL hi2 l 0 q))) :: .row 78 3 (v83) ((acc ++ [(((0 + 2 * i2 : Nat) : Int), ((n : Nat) : Int))]).length) ((unitV (acc ++ [(((0 + 2 * i2 : Nat) : Int), ((n : Nat) : Int))]))) :: []) := by
           have h9 := hM.sub (.cons _ (.cons_cons _ (.cons_cons _ (.refl _))))
           rw [unitV_snoc_good (by omega), List.length_append]
           exact h9
         refine hK66 _ _ _ (by omega) ⟨i2 + 1, acc ++ [(((0 + 2 * i2 : Nat) : Int), ((n : Nat) : Int))], v83, rfl, ⟨by rw [← hrun, pair_one (g := hi2) (l := l) (p := 0 + 2 * i2) (by omega) hn (by omega), show 0 + 2 * (i2 + 1) = 0 + 2 * i2 + 2 from by omega, List.append_assoc]; rfl, by omega, by rw [List.length_append]; simp only [List.length_cons, List.length_nil]; omega⟩, hA.keep _ ⟨rfl, rfl, rfl, rfl, rfl, rfl, rfl, rfl, rfl, rfl, rfl, rfl, rfl, rfl, rfl, rfl, rfl, rfl, rfl, rfl, rfl, rfl, rfl, rfl, rfl, rfl, rfl, rfl, rfl, rfl, rfl, rfl, rfl, rfl, rfl, rfl, rfl, rfl, rfl, rfl, rfl, rfl, rfl, rfl, trivial⟩, hM⟩
       · have hb80' := of_decide_eq_false hb80
         refine seq_do (v := .bool false) hA rfl rfl rfl (does_bin rfl rfl (fun w => (bin_gtr w).trans (by rw [hb80]))) ?_
         intro a hA
         refine seq_do (v := .bool false) hA rfl rfl rfl (does_pick rfl rfl rfl rfl) ?_
         intro a hA
         refine seq_do hA rfl rfl rfl (does_assign rfl) ?_
         intro a hA
         refine seq_end ?_
         refine hK74 _ _ ?_
         refine wp_cond_false (hA.ev rfl) ?_
         refine wp_seq_k (fun K85 hK85 => ?_)
         refine wp_region_lit ?_
         refine seq_do hA rfl rfl rfl (does_move rfl) ?_
         intro a hA
         rcases Bool.eq_false_or_eq_true (decide (((n : Nat) : Int) ≤ 56319)) with hb86 | hb86
         · have hb86' := of_decide_eq_true hb86
           refine seq_do (v := .bool true) hA rfl rfl rfl (does_bin rfl rfl (fun w => (bin_leq w).trans (by rw [hb86]))) ?_
           intro a hA
           refine seq_do hA rfl rfl rfl (does_move rfl) ?_
           intro a hA
           refine seq_do hA rfl rfl rfl (does_move rfl) ?_
           intro a hA
           refine seq_do (v := .int .i64 (((i2 + 1 : Nat) : Int))) hA rfl rfl rfl (does_bin rfl rfl (ar_add ((in_i64 (by omega) (by omega)).trans (by omega)))) ?_
           intro a hA
           refine seq_do hA rfl rfl rfl (does_move rfl) ?_
           intro a hA
           refine seq_do (v := .int .i64 (((q : Nat) : Int))) hA rfl rfl rfl (does_len Try.underlying74 rfl) ?_
           intro a hA
           rcases Bool.eq_false_or_eq_true (decide (((i2 + 1 : Nat) : Int) < ((q : Nat) : Int))) with hb87 | hb87
           · have hb87' := of_decide_eq_true hb87
             refine seq_do (v := .bool true) hA rfl rfl rfl (does_bin rfl rfl (fun w => (bin_lss w).trans (by rw [hb87]))) ?_
             intro a hA
             refine seq_do (v := .bool true) hA rfl rfl rfl (does_pick rfl rfl rfl rfl) ?_
             intro a hA
             refine seq_do hA rfl rfl rfl (does_move rfl) ?_
             intro a hA
             refine seq_do hA rfl rfl rfl (does_move rfl) ?_
             intro a hA
             refine seq_do hA rfl rfl rfl (does_move rfl) ?_
             intro a hA
             refine seq_do (v := .int .i64 (((i2 + 1 : Nat) : Int))) hA rfl rfl rfl (does_bin rfl rfl (ar_add ((in_i64 (by omega) (by omega)).trans (by omega)))) ?_
             intro a hA
             refine seq_do (v := .pointer (some ⟨gn, (i2 + 1) * 1, none⟩)) hA rfl rfl rfl (does_indexX Try.underlying74 (by kernel_rfl) rfl rfl rfl hgn (show i2 + 1 < q by omega)) ?_
             intro a hA
             obtain ⟨m9, hm9⟩ : ∃ m9 : Nat, hi2 (l.getD (0 + 2 * (i2 + 1)) 0).toNat (l.getD (0 + 2 * (i2 + 1) + 1) 0).toNat = m9 := ⟨_, rfl⟩
             have hltm9 : m9 < 65536 := hm9 ▸ hi2_lt _ _
             refine seq_do (v := .int .i32 (((m9 : Nat) : Int))) hA rfl rfl rfl (m_loadX hM 0 rfl hgn ((nums_at (g := hi2) (l := l) (f := 0) (n := q) (j := i2 + 1) (by omega)).trans (by rw [hm9])) CpE_is1_21 rfl) ?_
             intro a hA
             rcases Bool.eq_false_or_eq_true (decide (56320 ≤ ((m9 : Nat) : Int))) with hb88 | hb88
             · have hb88' := of_decide_eq_true hb88
               refine seq_do (v := .bool true) hA rfl rfl rfl (does_bin rfl rfl (fun w => (bin_geq w).trans (by rw [hb88]))) ?_
               intro a hA
               refine seq_do (v := .bool true) hA rfl rfl rfl (does_pick rfl rfl rfl rfl) ?_
               intro a hA
               refine seq_do hA rfl rfl rfl (does_move rfl) ?_
               intro a hA
               refine seq_do hA rfl rfl rfl (does_move rfl) ?_
               intro a hA
               refine seq_do hA rfl rfl rfl (does_move rfl) ?_
               intro a hA
               refine seq_do (v := .int .i64 (((i2 + 1 : Nat) : Int))) hA rfl rfl rfl (does_bin rfl rfl (ar_add ((in_i64 (by omega) (by omega)).trans (by omega)))) ?_
               intro a hA
               refine seq_do (v := .pointer (some ⟨gn, (i2 + 1) * 1, none⟩)) hA rfl rfl rfl (does_indexX Try.underlying74 (by kernel_rfl) rfl rfl rfl hgn (show i2 + 1 < q by omega)) ?_
               intro a hA
               refine seq_do (v := .int .i32 (((m9 : Nat) : Int))) hA rfl rfl rfl (m_loadX hM 0 rfl hgn ((nums_at (g := hi2) (l := l) (f := 0) (n := q) (j := i2 + 1) (by omega)).trans (by rw [hm9])) CpE_is1_21 rfl) ?_
               intro a hA
               rcases Bool.eq_false_or_eq_true (decide (((m9 : Nat) : Int) ≤ 57343)) with hb89 | hb89
               · have hb89' := of_decide_eq_true hb89
                 refine seq_do (v := .bool true) hA rfl rfl rfl (does_bin rfl rfl (fun w => (bin_leq w).trans (by rw [hb89]))) ?_
                 intro a hA
                 refine seq_do (v := .bool true) hA rfl rfl rfl (does_pick rfl rfl rfl rfl) ?_
                 intro a hA
                 refine seq_do hA rfl rfl rfl (does_assign rfl) ?_
                 intro a hA
                 refine seq_end ?_
                 refine hK85 _ _ ?_
                 refine wp_cond_true (hA.ev rfl) ?_
                 refine wp_seq_k (fun K90 hK90 => ?_)
                 refine wp_region_lit ?_
                 refine seq_do hA rfl rfl rfl (does_move rfl) ?_
                 intro a hA
                 refine seq_do hA rfl rfl rfl (does_move rfl) ?_
                 intro a hA
                 refine seq_do (v := .int .i32 (((n : Nat) : Int) - 55296)) hA rfl rfl rfl (does_bin rfl rfl (ar_sub (in_i32 (by omega) (by omega)))) ?_
                 intro a hA
                 refine seq_do (v := .int .i32 ((((n : Nat) : Int) - 55296) * 1024)) hA rfl rfl rfl (does_bin rfl rfl (ar_mul (in_i32 (by omega) (by omega)))) ?_
                 intro a hA
                 refine seq_do (v := .int .i32 (65536 + ((((n : Nat) : Int) - 55296) * 1024))) hA rfl rfl rfl (does_bin rfl rfl (ar_add (in_i32 (by omega) (by omega)))) ?_
                 intro a hA
                 refine seq_do hA rfl rfl rfl (does_move rfl) ?_
                 intro a hA
                 refine seq_do hA rfl rfl rfl (does_move rfl) ?_
                 intro a hA
                 refine seq_do (v := .int .i64 (((i2 + 1 : Nat) : Int))) hA rfl rfl rfl (does_bin rfl rfl (ar_add ((in_i64 (by omega) (by omega)).trans (by omega)))) ?_
                 intro a hA
                 refine seq_do (v := .pointer (some ⟨gn, (i2 + 1) * 1, none⟩)) hA rfl rfl rfl (does_indexX Try.underlying74 (by kernel_rfl) rfl rfl rfl hgn (show i2 + 1 < q by omega)) ?_
                 intro a hA
                 refine seq_do (v := .int .i32 (((m9 : Nat) : Int))) hA rfl rfl rfl (m_loadX hM 0 rfl hgn ((nums_at (g := hi2) (l := l) (f := 0) (n := q) (j := i2 + 1) (by omega)).trans (by rw [hm9])) CpE_is1_21 rfl) ?_
                 intro a hA
                 refine seq_do (v := .int .i32 (65536 + ((((n : Nat) : Int) - 55296) * 1024) + (((m9 : Nat) : Int)))) hA rfl rfl rfl (does_bin rfl rfl (ar_add (in_i32 (by omega) (by omega)))) ?_
                 intro a hA
                 refine seq_do (v := .int .i32 (65536 + ((((n : Nat) : Int) - 55296) * 1024) + (((m9 : Nat) : Int)) - 56320)) hA rfl rfl rfl (does_bin rfl rfl (ar_sub (in_i32 (by omega) (by omega)))) ?_
                 intro a hA
                 refine seq_do hA rfl rfl rfl (does_move rfl) ?_
                 intro a hA
                 refine seq_do (v := .agg #[.int .i32 (65536 + ((((n : Nat) : Int) - 55296) * 1024) + (((m9 : Nat) : Int)) - 56320), .bool false, .int .i64 (((0 + 2 * i2 : Nat) : Int))]) hA rfl rfl rfl (does_build rfl (fun w => by kernel_rfl)) ?_
                 intro a hA
                 refine s_litE (e := 78) (sz := 3) (m := 1) (vs := [.int .i32 (65536 + ((((n : Nat) : Int) - 55296) * 1024) + (((m9 : Nat) : Int)) - 56320), .bool false, .int .i64 (((0 + 2 * i2 : Nat) : Int))]) hA hM rfl rfl rfl (does_buildSlice rfl (by kernel_rfl)) rfl rfl (.inl (by decide)) ?_
                 intro g91 w92 hM a hA
                 refine s_appendE (e := 78) (sz := 3) (k := 2) (q := acc.length) (m := 1) (xs := (unitV acc)) (news := [.int .i32 (65536 + ((((n : Nat) : Int) - 55296) * 1024) + (((m9 : Nat) : Int)) - 56320), .bool false, .int .i64 (((0 + 2 * i2 : Nat) : Int))]) (L' := fun v93 => (.row 78 3 (.slice (some ⟨g91, 0, none⟩) 1 1) 1 ([.int .i32 (65536 + ((((n : Nat) : Int) - 55296) * 1024) + (((m9 : Nat) : Int)) - 56320), .bool false, .int .i64 (((0 + 2 * i2 : Nat) : Int))]) :: .row 21 1 (.slice sn q cn) q ((runeV (numsL hi2 l 0 q))) :: .row 78 3 (v93) (acc.length + 1) ((unitV acc) ++ [.int .i32 (65536 + ((((n : Nat) : Int) - 55296) * 1024) + (((m9 : Nat) : Int)) - 56320), .bool false, .int .i64 (((0 + 2 * i2 : Nat) : Int))]) :: [])) hA rfl rfl rfl (m_appendE (z := .agg #[.int .i32 0, .bool false, .int .i64 0]) (sz := 3) (by_ := 16) Try.underlying75 (by kernel_rfl) rfl rfl rfl hM 2 rfl rfl 0 rfl rfl rfl rfl (by omega)) (fun _ => rfl) ?_
                 intro v93 w94 hM a hA
                 refine seq_do hA rfl rfl rfl (does_assign rfl) ?_
                 intro a hA
                 refine seq_end ?_
                 refine hK90 _ _ ?_
                 refine wp_region_lit ?_
                 refine seq_do hA rfl rfl rfl (does_move rfl) ?_
                 intro a hA
                 refine seq_do (v := .int .i64 (((i2 + 1 : Nat) : Int))) hA rfl rfl rfl (does_bin rfl rfl (ar_add ((in_i64 (by omega) (by omega)).trans (by omega)))) ?_
                 intro a hA
                 refine seq_do hA rfl rfl rfl (does_assign rfl) ?_
                 intro a hA
                 refine seq_end ?_
                 refine hK71 _ _ ?_
                 refine wp_region_lit ?_
                 refine seq_do hA rfl rfl rfl (does_move rfl) ?_
                 intro a hA
                 refine seq_do (v := .int .i64 (((i2 + 1 + 1 : Nat) : Int))) hA rfl rfl rfl (does_bin rfl rfl (ar_add ((in_i64 (by omega) (by omega)).trans (by omega)))) ?_
                 intro a hA
                 refine seq_do hA rfl rfl rfl (does_assign rfl) ?_
                 intro a hA
                 refine seq_end ?_
                 replace hM : Mg w w94 (.row 21 1 (.slice sn q cn) q ((runeV (numsL hi2 l 0 q))) :: .row 78 3 (v93) ((acc ++ [(((0 + 2 * i2 : Nat) : Int), 65536 + ((((n : Nat) : Int) - 55296) * 1024) + (((m9 : Nat) : Int)) - 56320)]).length) ((unitV (acc ++ [(((0 + 2 * i2 : Nat) : Int), 65536 + ((((n : Nat) : Int) - 55296) * 1024) + (((m9 : Nat) : Int)) - 56320)]))) :: []) := by
                   have h9 := hM.sub (.cons _ (.cons_cons _ (.cons_cons _ (.refl _))))
                   rw [unitV_snoc_good (by omega), List.length_append]
                   exact h9
                 refine hK66 _ _ _ (by omega) ⟨i2 + 1 + 1, acc ++ [(((0 + 2 * i2 : Nat) : Int), 65536 + ((((n : Nat) : Int) - 55296) * 1024) + (((m9 : Nat) : Int)) - 56320)], v93, rfl, ⟨by rw [← hrun, pair_two (g := hi2) (l := l) (p := 0 + 2 * i2) (by omega) hn (show hi2 (l.getD (0 + 2 * i2 + 2) 0).toNat (l.getD (0 + 2 * i2 + 3) 0).toNat = m9 from hm9) (by omega) (by omega) (by omega) (by omega), show 0 + 2 * (i2 + 1 + 1) = 0 + 2 * i2 + 4 from by omega, List.append_assoc]; rfl, by omega, by rw [List.length_append]; simp only [List.length_cons, List.length_nil]; omega⟩, hA.keep _ ⟨rfl, rfl, rfl, rfl, rfl, rfl, rfl, rfl, rfl, rfl, rfl, rfl, rfl, rfl, rfl, rfl, rfl, rfl, rfl, rfl, rfl, rfl, rfl, rfl, rfl, rfl, rfl, rfl, rfl, rfl, rfl, rfl, rfl, rfl, rfl, rfl, rfl, rfl, rfl, rfl, rfl, rfl, rfl, rfl, trivial⟩, hM⟩
               · have hb89' := of_decide_eq_false hb89
                 refine seq_do (v := .bool false) hA rfl rfl rfl (does_bin rfl rfl (fun w => (bin_leq w).trans (by rw [hb89]))) ?_
                 intro a hA
                 refine seq_do (v := .bool false) hA rfl rfl rfl (does_pick rfl rfl rfl rfl) ?_
                 intro a hA
                 refine seq_do hA rfl rfl rfl (does_assign rfl) ?_
                 intro a hA
                 refine seq_end ?_
                 refine hK85 _ _ ?_
                 refine wp_cond_false (hA.ev rfl) ?_
                 refine wp_region_lit ?_
                 refine seq_do hA rfl rfl rfl (does_move rfl) ?_
                 intro a hA
                 refine seq_do hA rfl rfl rfl (does_move rfl) ?_
                 intro a hA
                 refine seq_do (v := .agg #[.int .i32 0, .bool true, .int .i64 (((0 + 2 * i2 : Nat) : Int))]) hA rfl rfl rfl (does_build rfl (fun w => by kernel_rfl)) ?_
                 intro a hA
                 refine s_litE (e := 78) (sz := 3) (m := 1) (vs := [.int .i32 0, .bool true, .int .i64 (((0 + 2 * i2 : Nat) : Int))]) hA hM rfl rfl rfl (does_buildSlice rfl (by kernel_rfl)) rfl rfl (.inl (by decide)) ?_
                 intro g95 w96 hM a hA
                 refine s_appendE (e := 78) (sz := 3) (k := 2) (q := acc.length) (m := 1) (xs := (unitV acc)) (news := [.int .i32 0, .bool true, .int .i64 (((0 + 2 * i2 : Nat) : Int))]) (L' := fun v97 => (.row 78 3 (.slice (some ⟨g95, 0, none⟩) 1 1) 1 ([.int .i32 0, .bool true, .int .i64 (((0 + 2 * i2 : Nat) : Int))]) :: .row 21 1 (.slice sn q cn) q ((runeV (numsL hi2 l 0 q))) :: .row 78 3 (v97) (acc.length + 1) ((unitV acc) ++ [.int .i32 0, .bool true, .int .i64 (((0 + 2 * i2 : Nat) : Int))]) :: [])) hA rfl rfl rfl (m_appendE (z := .agg #[.int .i32 0, .bool false, .int .i64 0]) (sz := 3) (by_ := 16) Try.underlying75 (by kernel_rfl) rfl rfl rfl hM 2 rfl rfl 0 rfl rfl rfl rfl (by omega)) (fun _ => rfl) ?_
                 intro v97 w98 hM a hA
                 refine seq_do hA rfl rfl rfl (does_assign rfl) ?_
                 intro a hA
                 refine seq_end ?_
                 refine hK71 _ _ ?_
                 refine wp_region_lit ?_
                 refine seq_do hA rfl rfl rfl (does_move rfl) ?_
                 intro a hA
                 refine seq_do (v := .int .i64 (((i2 + 1 : Nat) : Int))) hA rfl rfl rfl (does_bin rfl rfl (ar_add ((in_i64 (by omega) (by omega)).trans (by omega)))) ?_
                 intro a hA
                 refine seq_do hA rfl rfl rfl (does_assign rfl) ?_
                 intro a hA
                 refine seq_end ?_
                 replace hM : Mg w w98 (.row 21 1 (.slice sn q cn) q ((runeV (numsL hi2 l 0 q))) :: .row 78 3 (v97) ((acc ++ [(((0 + 2 * i2 : Nat) : Int), -1)]).length) ((unitV (acc ++ [(((0 + 2 * i2 : Nat) : Int), -1)]))) :: []) := by
                   have h9 := hM.sub (.cons _ (.cons_cons _ (.cons_cons _ (.refl _))))
                   rw [unitV_snoc_bad, List.length_append]
                   exact h9
                 refine hK66 _ _ _ (by omega) ⟨i2 + 1, acc ++ [(((0 + 2 * i2 : Nat) : Int), -1)], v97, rfl, ⟨by rw [← hrun, pair_bad (g := hi2) (l := l) (p := 0 + 2 * i2) (by omega) hn (by omega) (by omega) (fun _ _ => by rw [show hi2 (l.getD (0 + 2 * i2 + 2) 0).toNat (l.getD (0 + 2 * i2 + 3) 0).toNat = m9 from hm9]; omega), show 0 + 2 * (i2 + 1) = 0 + 2 * i2 + 2 from by omega, List.append_assoc]; rfl, by omega, by rw [List.length_append]; simp only [List.length_cons, List.length_nil]; omega⟩, hA.keep _ ⟨rfl, rfl, rfl, rfl, rfl, rfl, rfl, rfl, rfl, rfl, rfl, rfl, rfl, rfl, rfl, rfl, rfl, rfl, rfl, rfl, rfl, rfl, rfl, rfl, rfl, rfl, rfl, rfl, rfl, rfl, rfl, rfl, rfl, rfl, rfl, rfl, rfl, rfl, rfl, rfl, rfl, rfl, rfl, rfl, trivial⟩, hM⟩
             · have hb88' := of_decide_eq_false hb88
               refine seq_do (v := .bool false) hA rfl rfl rfl (does_bin rfl rfl (fun w => (bin_geq w).trans (by rw [hb88]))) ?_
               intro a hA
               refine seq_do (v := .bool false) hA rfl rfl rfl (does_pick rfl rfl rfl rfl) ?_
               intro a hA
               refine seq_do hA rfl rfl rfl (does_move rfl) ?_
               intro a hA
               refine seq_skip hA rfl rfl rfl ?_
               intro a hA
               refine seq_skip hA rfl rfl rfl ?_
               intro a hA
               refine seq_skip hA rfl rfl rfl ?_
               intro a hA
               refine seq_skip hA rfl rfl rfl ?_
               intro a hA
               refine seq_skip hA rfl rfl rfl ?_
               intro a hA
               refine seq_skip hA rfl rfl rfl ?_
               intro a hA
               refine seq_do (v := .bool false) hA rfl rfl rfl (does_pick rfl rfl rfl rfl) ?_
               intro a hA
               refine seq_do hA rfl rfl rfl (does_assign rfl) ?_
               intro a hA
               refine seq_end ?_
               refine hK85 _ _ ?_
               refine wp_cond_false (hA.ev rfl) ?_
               refine wp_region_lit ?_
               refine seq_do hA rfl rfl rfl (does_move rfl) ?_
               intro a hA
               refine seq_do hA rfl rfl rfl (does_move rfl) ?_
               intro a hA
               refine seq_do (v := .agg #[.int .i32 0, .bool true, .int .i64 (((0 + 2 * i2 : Nat) : Int))]) hA rfl rfl rfl (does_build rfl (fun w => by kernel_rfl)) ?_
               intro a hA
               refine s_litE (e := 78) (sz := 3) (m := 1) (vs := [.int .i32 0, .bool true, .int .i64 (((0 + 2 * i2 : Nat) : Int))]) hA hM rfl rfl rfl (does_buildSlice rfl (by kernel_rfl)) rfl rfl (.inl (by decide)) ?_
               intro g99 w100 hM a hA
               refine s_appendE (e := 78) (sz := 3) (k := 2) (q := acc.length) (m := 1) (xs := (unitV acc)) (news := [.int .i32 0, .bool true, .int .i64 (((0 + 2 * i2 : Nat) : Int))]) (L' := fun v101 => (.row 78 3 (.slice (some ⟨g99, 0, none⟩) 1 1) 1 ([.int .i32 0, .bool true, .int .i64 (((0 + 2 * i2 : Nat) : Int))]) :: .row 21 1 (.slice sn q cn) q ((runeV (numsL hi2 l 0 q))) :: .row 78 3 (v101) (acc.length + 1) ((unitV acc) ++ [.int .i32 0, .bool true, .int .i64 (((0 + 2 * i2 : Nat) : Int))]) :: [])) hA rfl rfl rfl (m_appendE (z := .agg #[.int .i32 0, .bool false, .int .i64 0]) (sz := 3) (by_ := 16) Try.underlying75 (by kernel_rfl) rfl rfl rfl hM 2 rfl rfl 0 rfl rfl rfl rfl (by omega)) (fun _ => rfl) ?_
               intro v101 w102 hM a hA
               refine seq_do hA rfl rfl rfl (does_assign rfl) ?_
               intro a hA
               refine seq_end ?_
               refine hK71 _ _ ?_
               refine wp_region_lit ?_
               refine seq_do hA rfl rfl rfl (does_move rfl) ?_
               intro a hA
               refine seq_do (v := .int .i64 (((i2 + 1 : Nat) : Int))) hA rfl rfl rfl (does_bin rfl rfl (ar_add ((in_i64 (by omega) (by omega)).trans (by omega)))) ?_
               intro a hA
               refine seq_do hA rfl rfl rfl (does_assign rfl) ?_
               intro a hA
               refine seq_end ?_
               replace hM : Mg w w102 (.row 21 1 (.slice sn q cn) q ((runeV (numsL hi2 l 0 q))) :: .row 78 3 (v101) ((acc ++ [(((0 + 2 * i2 : Nat) : Int), -1)]).length) ((unitV (acc ++ [(((0 + 2 * i2 : Nat) : Int), -1)]))) :: []) := by
                 have h9 := hM.sub (.cons _ (.cons_cons _ (.cons_cons _ (.refl _))))
                 rw [unitV_snoc_bad, List.length_append]
                 exact h9
               refine hK66 _ _ _ (by omega) ⟨i2 + 1, acc ++ [(((0 + 2 * i2 : Nat) : Int), -1)], v101, rfl, ⟨by rw [← hrun, pair_bad (g := hi2) (l := l) (p := 0 + 2 * i2) (by omega) hn (by omega) (by omega) (fun _ _ => by rw [show hi2 (l.getD (0 + 2 * i2 + 2) 0).toNat (l.getD (0 + 2 * i2 + 3) 0).toNat = m9 from hm9]; omega), show 0 + 2 * (i2 + 1) = 0 + 2 * i2 + 2 from by omega, List.append_assoc]; rfl, by omega, by rw [List.length_append]; simp only [List.length_cons, List.length_nil]; omega⟩, hA.keep _ ⟨rfl, rfl, rfl, rfl, rfl, rfl, rfl, rfl, rfl, rfl, rfl, rfl, rfl, rfl, rfl, rfl, rfl, rfl, rfl, rfl, rfl, rfl, rfl, rfl, rfl, rfl, rfl, rfl, rfl, rfl, rfl, rfl, rfl, rfl, rfl, rfl, rfl, rfl, rfl, rfl, rfl, rfl, rfl, rfl, trivial⟩, hM⟩
           · have hb87' := of_decide_eq_false hb87
             refine seq_do (v := .bool false) hA rfl rfl rfl (does_bin rfl rfl (fun w => (bin_lss w).trans (by rw [hb87]))) ?_
             intro a hA
             refine seq_do (v := .bool false) hA rfl rfl rfl (does_pick rfl rfl rfl rfl) ?_
             intro a hA
             refine seq_do hA rfl rfl rfl (does_move rfl) ?_
             intro a hA
             refine seq_skip hA rfl rfl rfl ?_
             intro a hA
             refine seq_skip hA rfl rfl rfl ?_
             intro a hA
             refine seq_skip hA rfl rfl rfl ?_
             intro a hA
             refine seq_skip hA rfl rfl rfl ?_
             intro a hA
             refine seq_skip hA rfl rfl rfl ?_
             intro a hA
             refine seq_skip hA rfl rfl rfl ?_
             intro a hA
             refine seq_do (v := .bool false) hA rfl rfl rfl (does_pick rfl rfl rfl rfl) ?_
             intro a hA
             refine seq_do hA rfl rfl rfl (does_move rfl) ?_
             intro a hA
             refine seq_skip hA rfl rfl rfl ?_
             intro a hA
             refine seq_skip hA rfl rfl rfl ?_
             intro a hA
             refine seq_skip hA rfl rfl rfl ?_
             intro a hA
             refine seq_skip hA rfl rfl rfl ?_
             intro a hA
             refine seq_skip hA rfl rfl rfl ?_
             intro a hA
             refine seq_skip hA rfl rfl rfl ?_
             intro a hA
             refine seq_do (v := .bool false) hA rfl rfl rfl (does_pick rfl rfl rfl rfl) ?_
             intro a hA
             refine seq_do hA rfl rfl rfl (does_assign rfl) ?_
             intro a hA
             refine seq_end ?_
             refine hK85 _ _ ?_
             refine wp_cond_false (hA.ev rfl) ?_
             refine wp_region_lit ?_
             refine seq_do hA rfl rfl rfl (does_move rfl) ?_
             intro a hA
             refine seq_do hA rfl rfl rfl (does_move rfl) ?_
             intro a hA
             refine seq_do (v := .agg #[.int .i32 0, .bool true, .int .i64 (((0 + 2 * i2 : Nat) : Int))]) hA rfl rfl rfl (does_build rfl (fun w => by kernel_rfl)) ?_
             intro a hA
             refine s_litE (e := 78) (sz := 3) (m := 1) (vs := [.int .i32 0, .bool true, .int .i64 (((0 + 2 * i2 : Nat) : Int))]) hA hM rfl rfl rfl (does_buildSlice rfl (by kernel_rfl)) rfl rfl (.inl (by decide)) ?_
             intro g103 w104 hM a hA
             refine s_appendE (e := 78) (sz := 3) (k := 2) (q := acc.length) (m := 1) (xs := (unitV acc)) (news := [.int .i32 0, .bool true, .int .i64 (((0 + 2 * i2 : Nat) : Int))]) (L' := fun v105 => (.row 78 3 (.slice (some ⟨g103, 0, none⟩) 1 1) 1 ([.int .i32 0, .bool true, .int .i64 (((0 + 2 * i2 : Nat) : Int))]) :: .row 21 1 (.slice sn q cn) q ((runeV (numsL hi2 l 0 q))) :: .row 78 3 (v105) (acc.length + 1) ((unitV acc) ++ [.int .i32 0, .bool true, .int .i64 (((0 + 2 * i2 : Nat) : Int))]) :: [])) hA rfl rfl rfl (m_appendE (z := .agg #[.int .i32 0, .bool false, .int .i64 0]) (sz := 3) (by_ := 16) Try.underlying75 (by kernel_rfl) rfl rfl rfl hM 2 rfl rfl 0 rfl rfl rfl rfl (by omega)) (fun _ => rfl) ?_
             intro v105 w106 hM a hA
             refine seq_do hA rfl rfl rfl (does_assign rfl) ?_
             intro a hA
             refine seq_end ?_
             refine hK71 _ _ ?_
             refine wp_region_lit ?_
             refine seq_do hA rfl rfl rfl (does_move rfl) ?_
             intro a hA
             refine seq_do (v := .int .i64 (((i2 + 1 : Nat) : Int))) hA rfl rfl rfl (does_bin rfl rfl (ar_add ((in_i64 (by omega) (by omega)).trans (by omega)))) ?_
             intro a hA
             refine seq_do hA rfl rfl rfl (does_assign rfl) ?_
             intro a hA
             refine seq_end ?_
             replace hM : Mg w w106 (.row 21 1 (.slice sn q cn) q ((runeV (numsL hi2 l 0 q))) :: .row 78 3 (v105) ((acc ++ [(((0 + 2 * i2 : Nat) : Int), -1)]).length) ((unitV (acc ++ [(((0 + 2 * i2 : Nat) : Int), -1)]))) :: []) := by
               have h9 := hM.sub (.cons _ (.cons_cons _ (.cons_cons _ (.refl _))))
               rw [unitV_snoc_bad, List.length_append]
               exact h9
             refine hK66 _ _ _ (by omega) ⟨i2 + 1, acc ++ [(((0 + 2 * i2 : Nat) : Int), -1)], v105, rfl, ⟨by rw [← hrun, pair_bad (g := hi2) (l := l) (p := 0 + 2 * i2) (by omega) hn (by omega) (by omega) (fun _ _ => by exfalso; omega), show 0 + 2 * (i2 + 1) = 0 + 2 * i2 + 2 from by omega, List.append_assoc]; rfl, by omega, by rw [List.length_append]; simp only [List.length_cons, List.length_nil]; omega⟩, hA.keep _ ⟨rfl, rfl, rfl, rfl, rfl, rfl, rfl, rfl, rfl, rfl, rfl, rfl, rfl, rfl, rfl, rfl, rfl, rfl, rfl, rfl, rfl, rfl, rfl, rfl, rfl, rfl, rfl, rfl, rfl, rfl, rfl, rfl, rfl, rfl, rfl, rfl, rfl, rfl, rfl, rfl, rfl, rfl, rfl, rfl, trivial⟩, hM⟩
         · have hb86' := of_decide_eq_false hb86
           refine seq_do (v := .bool false) hA rfl rfl rfl (does_bin rfl rfl (fun w => (bin_leq w).trans (by rw [hb86]))) ?_
           intro a hA
           refine seq_do hA rfl rfl rfl (does_move rfl) ?_
           intro a hA
           refine seq_skip hA rfl rfl rfl ?_
           intro a hA
           refine seq_skip hA rfl rfl rfl ?_
           intro a hA
           refine seq_skip hA rfl rfl rfl ?_
           intro a hA
           refine seq_skip hA rfl rfl rfl ?_
           intro a hA
           refine seq_skip hA rfl rfl rfl ?_
           intro a hA
           refine seq_do (v := .bool false) hA rfl rfl rfl (does_pick rfl rfl rfl rfl) ?_
           intro a hA
           refine seq_do hA rfl rfl rfl (does_move rfl) ?_
           intro a hA
           refine seq_skip hA rfl rfl rfl ?_
           intro a hA
           refine seq_skip hA rfl rfl rfl ?_
           intro a hA
           refine seq_skip hA rfl rfl rfl ?_
           intro a hA
           refine seq_skip hA rfl rfl rfl ?_
           intro a hA
           refine seq_skip hA rfl rfl rfl ?_
           intro a hA
           refine seq_skip hA rfl rfl rfl ?_
           intro a hA
           refine seq_do (v := .bool false) hA rfl rfl rfl (does_pick rfl rfl rfl rfl) ?_
           intro a hA
           refine seq_do hA rfl rfl rfl (does_move rfl) ?_
           intro a hA
           refine seq_skip hA rfl rfl rfl ?_
           intro a hA
           refine seq_skip hA rfl rfl rfl ?_
           intro a hA
           refine seq_skip hA rfl rfl rfl ?_
           intro a hA
           refine seq_skip hA rfl rfl rfl ?_
           intro a hA
           refine seq_skip hA rfl rfl rfl ?_
           intro a hA
           refine seq_skip hA rfl rfl rfl ?_
           intro a hA
           refine seq_do (v := .bool false) hA rfl rfl rfl (does_pick rfl rfl rfl rfl) ?_
           intro a hA
           refine seq_do hA rfl rfl rfl (does_assign rfl) ?_
           intro a hA
           refine seq_end ?_
           refine hK85 _ _ ?_
           refine wp_cond_false (hA.ev rfl) ?_
           refine wp_region_lit ?_
           refine seq_do hA rfl rfl rfl (does_move rfl) ?_
           intro a hA
           refine seq_do hA rfl rfl rfl (does_move rfl) ?_
           intro a hA
           refine seq_do (v := .agg #[.int .i32 0, .bool true, .int .i64 (((0 + 2 * i2 : Nat) : Int))]) hA rfl rfl rfl (does_build rfl (fun w => by kernel_rfl)) ?_
           intro a hA
           refine s_litE (e := 78) (sz := 3) (m := 1) (vs := [.int .i32 0, .bool true, .int .i64 (((0 + 2 * i2 : Nat) : Int))]) hA hM rfl rfl rfl (does_buildSlice rfl (by kernel_rfl)) rfl rfl (.inl (by decide)) ?_
           intro g107 w108 hM a hA
           refine s_appendE (e := 78) (sz := 3) (k := 2) (q := acc.length) (m := 1) (xs := (unitV acc)) (news := [.int .i32 0, .bool true, .int .i64 (((0 + 2 * i2 : Nat) : Int))]) (L' := fun v109 => (.row 78 3 (.slice (some ⟨g107, 0, none⟩) 1 1) 1 ([.int .i32 0, .bool true, .int .i64 (((0 + 2 * i2 : Nat) : Int))]) :: .row 21 1 (.slice sn q cn) q ((runeV (numsL hi2 l 0 q))) :: .row 78 3 (v109) (acc.length + 1) ((unitV acc) ++ [.int .i32 0, .bool true, .int .i64 (((0 + 2 * i2 : Nat) : Int))]) :: [])) hA rfl rfl rfl (m_appendE (z := .agg #[.int .i32 0, .bool false, .int .i64 0]) (sz := 3) (by_ := 16) Try.underlying75 (by kernel_rfl) rfl rfl rfl hM 2 rfl rfl 0 rfl rfl rfl rfl (by omega)) (fun _ => rfl) ?_
           intro v109 w110 hM a hA
           refine seq_do hA rfl rfl rfl (does_assign rfl) ?_
           intro a hA
           refine seq_end ?_
           refine hK71 _ _ ?_
           refine wp_region_lit ?_
           refine seq_do hA rfl rfl rfl (does_move rfl) ?_
           intro a hA
           refine seq_do (v := .int .i64 (((i2 + 1 : Nat) : Int))) hA rfl rfl rfl (does_bin rfl rfl (ar_add ((in_i64 (by omega) (by omega)).trans (by omega)))) ?_
           intro a hA
           refine seq_do hA rfl rfl rfl (does_assign rfl) ?_
           intro a hA
           refine seq_end ?_
           replace hM : Mg w w110 (.row 21 1 (.slice sn q cn) q ((runeV (numsL hi2 l 0 q))) :: .row 78 3 (v109) ((acc ++ [(((0 + 2 * i2 : Nat) : Int), -1)]).length) ((unitV (acc ++ [(((0 + 2 * i2 : Nat) : Int), -1)]))) :: []) := by
             have h9 := hM.sub (.cons _ (.cons_cons _ (.cons_cons _ (.refl _))))
             rw [unitV_snoc_bad, List.length_append]
             exact h9
           refine hK66 _ _ _ (by omega) ⟨i2 + 1, acc ++ [(((0 + 2 * i2 : Nat) : Int), -1)], v109, rfl, ⟨by rw [← hrun, pair_bad (g := hi2) (l := l) (p := 0 + 2 * i2) (by omega) hn (by omega) (by omega) (fun _ _ => by exfalso; omega), show 0 + 2 * (i2 + 1) = 0 + 2 * i2 + 2 from by omega, List.append_assoc]; rfl, by omega, by rw [List.length_append]; simp only [List.length_cons, List.length_nil]; omega⟩, hA.keep _ ⟨rfl, rfl, rfl, rfl, rfl, rfl, rfl, rfl, rfl, rfl, rfl, rfl, rfl, rfl, rfl, rfl, rfl, rfl, rfl, rfl, rfl, rfl, rfl, rfl, rfl, rfl, rfl, rfl, rfl, rfl, rfl, rfl, rfl, rfl, rfl, rfl, rfl, rfl, rfl, rfl, rfl, rfl, rfl, rfl, trivial⟩, hM⟩
   · have hb70' := of_decide_eq_false hb70
     refine seq_do (v := .bool false) hA rfl rfl rfl (does_bin rfl rfl (fun w => (bin_lss w).trans (by rw [hb70]))) ?_
     intro a hA
     refine seq_end ?_
     refine hK69 _ _ ?_
     refine wp_cond_false (hA.ev rfl) ?_
     refine wp_exit ?_
     refine hK63 _ _ ?_
     refine wp_seq_k (fun K111 hK111 => ?_)
     refine wp_seq_k (fun K112 hK112 => ?_)
     refine wp_region_lit ?_
     refine seq_do hA rfl rfl rfl (does_move rfl) ?_
     intro a hA
     refine seq_do (v := .int .i64 (((l.length : Nat) : Int))) hA rfl rfl rfl (does_len Try.underlying24 rfl) ?_
     intro a hA
     refine seq_do hA rfl rfl rfl (does_move rfl) ?_
     intro a hA
     refine seq_do (v := .int .i64 ((((l.length) - 0 : Nat) : Int))) hA rfl rfl rfl (does_bin rfl rfl (ar_sub ((in_i64 (by omega) (by omega)).trans (by omega)))) ?_
     intro a hA
     refine seq_do (v := .int .i64 (((((l.length) - 0) % 2 : Nat) : Int))) hA rfl rfl rfl (does_bin rfl rfl (ar_rem (by decide) ((Int.tmod_eq_emod_of_nonneg (by omega)).trans (by omega)))) ?_
     intro a hA
     rcases Bool.eq_false_or_eq_true ((((((l.length) - 0) % 2 : Nat) : Int) == 1)) with hb113 | hb113
     · have hb113' := eq_of_beq hb113
       refine seq_do (v := .bool true) hA rfl rfl rfl (does_bin rfl rfl (fun w => (bin_eql w).trans (by rw [hb113]))) ?_
       intro a hA
       refine seq_end ?_
       refine hK112 _ _ ?_
       refine wp_cond_true (hA.ev rfl) ?_
       refine wp_region_lit ?_
       refine seq_do hA rfl rfl rfl (does_move rfl) ?_
       intro a hA
       refine seq_do hA rfl rfl rfl (does_move rfl) ?_
       intro a hA
       refine seq_do (v := .int .i64 (((l.length : Nat) : Int))) hA rfl rfl rfl (does_len Try.underlying24 rfl) ?_
       intro a hA
       refine seq_do (v := .int .i64 ((((l.length) - 1 : Nat) : Int))) hA rfl rfl rfl (does_bin rfl rfl (ar_sub ((in_i64 (by omega) (by omega)).trans (by omega)))) ?_
       intro a hA
       refine seq_do (v := .agg #[.int .i32 0, .bool true, .int .i64 ((((l.length) - 1 : Nat) : Int))]) hA rfl rfl rfl (does_build rfl (fun w => by kernel_rfl)) ?_
       intro a hA
       refine s_litE (e := 78) (sz := 3) (m := 1) (vs := [.int .i32 0, .bool true, .int .i64 ((((l.length) - 1 : Nat) : Int))]) hA hM rfl rfl rfl (does_buildSlice rfl (by kernel_rfl)) rfl rfl (.inl (by decide)) ?_
       intro g114 w115 hM a hA
       refine s_appendE (e := 78) (sz := 3) (k := 2) (q := acc.length) (m := 1) (xs := (unitV acc)) (news := [.int .i32 0, .bool true, .int .i64 ((((l.length) - 1 : Nat) : Int))]) (L' := fun v116 => (.row 78 3 (.slice (some ⟨g114, 0, none⟩) 1 1) 1 ([.int .i32 0, .bool true, .int .i64 ((((l.length) - 1 : Nat) : Int))]) :: .row 21 1 (.slice sn q cn) q ((runeV (numsL hi2 l 0 q))) :: .row 78 3 (v116) (acc.length + 1) ((unitV acc) ++ [.int .i32 0, .bool true, .int .i64 ((((l.length) - 1 : Nat) : Int))]) :: [])) hA rfl rfl rfl (m_appendE (z := .agg #[.int .i32 0, .bool false, .int .i64 0]) (sz := 3) (by_ := 16) Try.underlying75 (by kernel_rfl) rfl rfl rfl hM 2 rfl rfl 0 rfl rfl rfl rfl (by omega)) (fun _ => rfl) ?_
       intro v116 w117 hM a hA
       refine seq_do hA rfl rfl rfl (does_assign rfl) ?_
       intro a hA
       refine seq_end ?_
       refine hK111 _ _ ?_
       refine wp_seq_k (fun K118 hK118 => ?_)
       refine wp_region_lit ?_
       refine seq_do hA rfl rfl rfl (does_move rfl) ?_
       intro a hA
       refine seq_do hA rfl rfl rfl (does_assign rfl) ?_
       intro a hA
       refine seq_end ?_
       refine hK118 _ _ ?_
       refine wp_ret ?_
       refine hret _ _ ?_
       refine ends (v := v116) hA rfl (.cons (res_tmp rfl) .nil) rfl ?_
       replace hM : Mg w w117 (.row 21 1 (.slice sn q cn) q ((runeV (numsL hi2 l 0 q))) :: .row 78 3 (v116) ((acc ++ [((((l.length) - 1 : Nat) : Int), -1)]).length) ((unitV (acc ++ [((((l.length) - 1 : Nat) : Int), -1)]))) :: []) := by
         have h9 := hM.sub (.cons _ (.cons_cons _ (.cons_cons _ (.refl _))))
         rw [unitV_snoc_bad, List.length_append]
         exact h9
       have he9 := pair_end (g := hi2) (l := l) (p := 0 + 2 * i2) (by omega)
       rw [he9, show ((0 + 2 * i2 : Nat) : Int) = (((l.length) - 1 : Nat) : Int) from by omega] at hrun
       rw [← hrun]
       exact ⟨_, rfl, hM.sub (.cons _ (.cons_cons _ (.refl _)))⟩
     · have hb113' := ne_of_beq_false hb113
       refine seq_do (v := .bool false) hA rfl rfl rfl (does_bin rfl rfl (fun w => (bin_eql w).trans (by rw [hb113]))) ?_
       intro a hA
       refine seq_end ?_
       refine hK112 _ _ ?_
       refine wp_cond_false (hA.ev rfl) ?_
       refine wp_skip ?_
       refine hK111 _ _ ?_
       refine wp_seq_k (fun K119 hK119 => ?_)
       refine wp_region_lit ?_
       refine seq_do hA rfl rfl rfl (does_move rfl) ?_
       intro a hA
       refine seq_do hA rfl rfl rfl (does_assign rfl) ?_
       intro a hA
       refine seq_end ?_
       refine hK119 _ _ ?_
       refine wp_ret ?_
       refine hret _ _ ?_
       refine ends (v := vo) hA rfl (.cons (res_tmp rfl) .nil) rfl ?_
       rw [restW_over (by omega), List.append_nil] at hrun
       subst hrun
       exact ⟨_, rfl, hM.sub (.cons _ (.cons_cons _ (.refl _)))⟩
set_option maxHeartbeats 4000000 in
theorem rutf16_p3 {w : World} {so : Option Addr} {cap : Nat} {l : List UInt8} (hb : Rb w so l) (hlen : l.length ≤ 1000000) (klen : (decide (2 ≤ ((l.length : Nat) : Int))) = true) (ka : (((((l.getD (0) 0).toNat : Nat) : Int) == 254)) = false) (kc : (((((l.getD (0) 0).toNat : Nat) : Int) == 255)) = true) (kd : (((((l.getD (1) 0).toNat : Nat) : Int) == 254)) = true) : Calls Try.prog 71 #[.slice so l.length cap] w fun e w' => ∃ v, e = .returned v ∧ Mg w w' [.row 78 3 v (unitsW l).length (unitV (unitsW l))] := by
 have klen' := of_decide_eq_true klen
 have ka' := ne_of_beq_false ka
 have kc' := eq_of_beq kc
 have kd' := eq_of_beq kd
 have hM : Mg w w ([]) := Mg.start w
 refine walk_of (l := [(0, .slice so l.length cap)]) Try.func71 rfl Try.ntmps71 rfl rfl ?_
 intro Q hret hnorm hP a hA
 refine wp_seq_k (fun K1 hK1 => ?_)
 refine wp_region_lit ?_
 refine seq_do hA rfl rfl rfl (does_assign rfl) ?_
 intro a hA
 refine seq_end ?_
 refine hK1 _ _ ?_
 refine wp_seq_k (fun K2 hK2 => ?_)
 refine wp_region_lit ?_
 refine s_litE (e := 78) (sz := 3) (m := 0) (vs := []) hA hM rfl rfl rfl (does_buildSlice rfl (by kernel_rfl)) rfl rfl (.inl (by decide)) ?_
 intro g3 w4 hM a hA
 refine seq_do hA rfl rfl rfl (does_assign rfl) ?_
 intro a hA
 refine seq_end ?_
 refine hK2 _ _ ?_
 refine wp_seq_k (fun K5 hK5 => ?_)
 refine wp_region_lit ?_
 refine seq_do hA rfl rfl rfl (does_assign rfl) ?_
 intro a hA
 refine seq_end ?_
 refine hK5 _ _ ?_
 refine wp_seq_k (fun K6 hK6 => ?_)
 refine wp_region_lit ?_
 refine seq_do hA rfl rfl rfl (does_assign rfl) ?_
 intro a hA
 refine seq_end ?_
 refine hK6 _ _ ?_
 refine wp_seq_k (fun K7 hK7 => ?_)
 refine wp_seq_k (fun K8 hK8 => ?_)
 refine wp_region_lit ?_
 refine seq_do hA rfl rfl rfl (does_move rfl) ?_
 intro a hA
 refine seq_do (v := .int .i64 (((l.length : Nat) : Int))) hA rfl rfl rfl (does_len Try.underlying24 rfl) ?_
 intro a hA
 refine seq_do (v := .bool true) hA rfl rfl rfl (does_bin rfl rfl (fun w => (bin_geq w).trans (by rw [show (decide (2 ≤ ((l.length : Nat) : Int))) = true from klen]))) ?_
 intro a hA
 refine seq_do hA rfl rfl rfl (does_move rfl) ?_
 intro a hA
 refine seq_do hA rfl rfl rfl (does_move rfl) ?_
 intro a hA
 obtain ⟨bx9, ox10, hxa11, hxb12, hxc13⟩ := rb_open (i := 0) hb (by omega)
 refine seq_do (v := .pointer (some ⟨bx9, ox10 + (0), none⟩)) hA rfl rfl rfl (does_indexRow Try.underlying24 (by kernel_rfl) rfl rfl rfl hxa11 (show 0 < l.length by omega)) ?_
 intro a hA
 refine seq_do (v := .int .u8 ((((l.getD (0) 0).toNat : Nat) : Int))) hA rfl rfl rfl (m_loadR hM hxb12 (hxc13 (0) (by omega)) CpE_is1_5 rfl) ?_
 intro a hA
 have hu14 := (l.getD (0) 0).toNat_lt
 refine seq_do (v := .bool false) hA rfl rfl rfl (does_bin rfl rfl (fun w => (bin_eql w).trans (by rw [show (((((l.getD (0) 0).toNat : Nat) : Int) == 254)) = false from ka]))) ?_
 intro a hA
 refine seq_do (v := .bool false) hA rfl rfl rfl (does_pick rfl rfl rfl rfl) ?_
 intro a hA
 refine seq_do hA rfl rfl rfl (does_move rfl) ?_
 intro a hA
 refine seq_skip hA rfl rfl rfl ?_
 intro a hA
 refine seq_skip hA rfl rfl rfl ?_
 intro a hA
 refine seq_skip hA rfl rfl rfl ?_
 intro a hA
 refine seq_skip hA rfl rfl rfl ?_
 intro a hA
 refine seq_do (v := .bool false) hA rfl rfl rfl (does_pick rfl rfl rfl rfl) ?_
 intro a hA
 refine seq_end ?_
 refine hK8 _ _ ?_
 refine wp_cond_false (hA.ev rfl) ?_
 refine wp_skip ?_
 refine hK7 _ _ ?_
 refine wp_seq_k (fun K15 hK15 => ?_)
 refine wp_seq_k (fun K16 hK16 => ?_)
 refine wp_region_lit ?_
 refine seq_do hA rfl rfl rfl (does_move rfl) ?_
 intro a hA
 refine seq_do (v := .int .i64 (((l.length : Nat) : Int))) hA rfl rfl rfl (does_len Try.underlying24 rfl) ?_
 intro a hA
 refine seq_do (v := .bool true) hA rfl rfl rfl (does_bin rfl rfl (fun w => (bin_geq w).trans (by rw [show (decide (2 ≤ ((l.length : Nat) : Int))) = true from klen]))) ?_
 intro a hA
 refine seq_do hA rfl rfl rfl (does_move rfl) ?_
 intro a hA
 refine seq_do hA rfl rfl rfl (does_move rfl) ?_
 intro a hA
 obtain ⟨bx17, ox18, hxa19, hxb20, hxc21⟩ := rb_open (i := 0) hb (by omega)
 refine seq_do (v := .pointer (some ⟨bx17, ox18 + (0), none⟩)) hA rfl rfl rfl (does_indexRow Try.underlying24 (by kernel_rfl) rfl rfl rfl hxa19 (show 0 < l.length by omega)) ?_
 intro a hA
 refine seq_do (v := .int .u8 ((((l.getD (0) 0).toNat : Nat) : Int))) hA rfl rfl rfl (m_loadR hM hxb20 (hxc21 (0) (by omega)) CpE_is1_5 rfl) ?_
 intro a hA
 have hu22 := (l.getD (0) 0).toNat_lt
 refine seq_do (v := .bool true) hA rfl rfl rfl (does_bin rfl rfl (fun w => (bin_eql w).trans (by rw [show (((((l.getD (0) 0).toNat : Nat) : Int) == 255)) = true from kc]))) ?_
 intro a hA
 refine seq_do (v := .bool true) hA rfl rfl rfl (does_pick rfl rfl rfl rfl) ?_
 intro a hA
 refine seq_do hA rfl rfl rfl (does_move rfl) ?_
 intro a hA
 refine seq_do hA rfl rfl rfl (does_move rfl) ?_
 intro a hA
 obtain ⟨bx23, ox24, hxa25, hxb26, hxc27⟩ := rb_open (i := 1) hb (by omega)
 refine seq_do (v := .pointer (some ⟨bx23, ox24 + (1), none⟩)) hA rfl rfl rfl (does_indexRow Try.underlying24 (by kernel_rfl) rfl rfl rfl hxa25 (show 1 < l.length by omega)) ?_
 intro a hA
 refine seq_do (v := .int .u8 ((((l.getD (1) 0).toNat : Nat) : Int))) hA rfl rfl rfl (m_loadR hM hxb26 (hxc27 (1) (by omega)) CpE_is1_5 rfl) ?_
 intro a hA
 have hu28 := (l.getD (1) 0).toNat_lt
 refine seq_do (v := .bool true) hA rfl rfl rfl (does_bin rfl rfl (fun w => (bin_eql w).trans (by rw [show (((((l.getD (1) 0).toNat : Nat) : Int) == 254)) = true from kd]))) ?_
 intro a hA
 refine seq_do (v := .bool true) hA rfl rfl rfl (does_pick rfl rfl rfl rfl) ?_
 intro a hA
 refine seq_end ?_
 refine hK16 _ _ ?_
 refine wp_cond_true (hA.ev rfl) ?_
 refine wp_seq_k (fun K29 hK29 => ?_)
 refine wp_region_lit ?_
 refine seq_do hA rfl rfl rfl (does_assign rfl) ?_
 intro a hA
 refine seq_end ?_
 refine hK29 _ _ ?_
 refine wp_region_lit ?_
 refine seq_do hA rfl rfl rfl (does_assign rfl) ?_
 intro a hA
 refine seq_end ?_
 refine hK15 _ _ ?_
 refine wp_seq_k (fun K30 hK30 => ?_)
 refine wp_region_lit ?_
 refine s_litE (e := 21) (sz := 1) (m := 0) (vs := []) hA hM rfl rfl rfl (does_buildSlice rfl (by kernel_rfl)) rfl rfl (.inl (by decide)) ?_
 intro g31 w32 hM a hA
 refine seq_do hA rfl rfl rfl (does_assign rfl) ?_
 intro a hA
 refine seq_end ?_
 refine hK30 _ _ ?_
 refine wp_seq_k (fun K33 hK33 => ?_)
 refine wp_region_lit ?_
 refine seq_do hA rfl rfl rfl (does_move rfl) ?_
 intro a hA
 refine seq_do hA rfl rfl rfl (does_assign rfl) ?_
 intro a hA
 refine seq_end ?_
 refine hK33 _ _ ?_
 refine wp_seq_k (fun K34 hK34 => ?_)
 refine wp_seq_k (fun K35 hK35 => ?_)
 refine wp_region_lit ?_
 refine seq_do hA rfl rfl rfl (does_move rfl) ?_
 intro a hA
 refine seq_do hA rfl rfl rfl (does_assign rfl) ?_
 intro a hA
 refine seq_end ?_
 refine hK35 _ _ ?_
 refine wp_block ?_
 refine wp_loop_n (fun m_ a w1 => ∃ (q : Nat) (sn : Option Addr) (cn : Nat), m_ = l.length - q ∧ (2 + 2 * q ≤ l.length ∨ q = 0) ∧ Sl a 175 [(0, .slice so l.length cap), (2, .slice none 0 0), (3, .slice (some ⟨g3, 0, none⟩) 0 0), (4, .int .i64 2), (5, .bool true), (6, .slice sn q cn), (7, .int .i64 2), (8, .int .i64 (((2 + 2 * q : Nat) : Int))), (13, .slice (some ⟨g3, 0, none⟩) 0 0), (14, .slice so l.length cap), (15, .int .i64 (((l.length : Nat) : Int))), (16, .bool true), (17, .bool true), (18, .slice so l.length cap), (19, .pointer (some ⟨bx9, ox10 + (0), none⟩)), (20, .int .u8 ((((l.getD (0) 0).toNat : Nat) : Int))), (21, .bool false), (22, .bool false), (23, .bool false), (28, .bool false), (29, .slice so l.length cap), (30, .int .i64 (((l.length : Nat) : Int))), (31, .bool true), (32, .bool true), (33, .slice so l.length cap), (34, .pointer (some ⟨bx17, ox18 + (0), none⟩)), (35, .int .u8 ((((l.getD (0) 0).toNat : Nat) : Int))), (36, .bool true), (37, .bool true), (38, .bool true), (39, .slice so l.length cap), (40, .pointer (some ⟨bx23, ox24 + (1), none⟩)), (41, .int .u8 ((((l.getD (1) 0).toNat : Nat) : Int))), (42, .bool true), (43, .bool true), (44, .slice (some ⟨g31, 0, none⟩) 0 0), (45, .int .i64 2), (46, .int .i64 2)] ∧ Mg w w1 (.row 21 1 (.slice sn q cn) q ((runeV (numsL lo2 l 2 q))) :: .row 78 3 (.slice (some ⟨g3, 0, none⟩) 0 0) 0 ([]) :: [])) _ ⟨0, some ⟨g31, 0, none⟩, 0, rfl, by omega, hA.keep _ ⟨rfl, rfl, rfl, rfl, rfl, rfl, rfl, rfl, rfl, rfl, rfl, rfl, rfl, rfl, rfl, rfl, rfl, rfl, rfl, rfl, rfl, rfl, rfl, rfl, rfl, rfl, rfl, rfl, rfl, rfl, rfl, rfl, rfl, rfl, rfl, rfl, rfl, rfl, trivial⟩, hM⟩ ?_
 clear hM hA
 rintro m_ a w36 ⟨q, sn, cn, rfl, hinv38, hA, hM⟩ K37 hK37
 refine wp_seq_k (fun K39 hK39 => ?_)
 refine wp_seq_k (fun K40 hK40 => ?_)
 refine wp_region_lit ?_
 refine seq_do hA rfl rfl rfl (does_move rfl) ?_
 intro a hA
 refine seq_do (v := .int .i64 (((2 + 2 * q + 1 : Nat) : Int))) hA rfl rfl rfl (does_bin rfl rfl (ar_add ((in_i64 (by omega) (by omega)).trans (by omega)))) ?_
 intro a hA
 refine seq_do hA rfl rfl rfl (does_move rfl) ?_
 intro a hA
 refine seq_do (v := .int .i64 (((l.length : Nat) : Int))) hA rfl rfl rfl (does_len Try.underlying24 rfl) ?_
 intro a hA
 rcases Bool.eq_false_or_eq_true (decide (((2 + 2 * q + 1 : Nat) : Int) < ((l.length : Nat) : Int))) with hb41 | hb41
 · have hb41' := of_decide_eq_true hb41
   refine seq_do (v := .bool true) hA rfl rfl rfl (does_bin rfl rfl (fun w => (bin_lss w).trans (by rw [hb41]))) ?_
   intro a hA
   refine seq_end ?_
   refine hK40 _ _ ?_
   refine wp_cond_true (hA.ev rfl) ?_
   refine wp_skip ?_
   refine hK39 _ _ ?_
   refine wp_seq_k (fun K42 hK42 => ?_)
   refine wp_block ?_
   refine wp_seq_k (fun K43 hK43 => ?_)
   refine wp_draw (S := fun w1 => Mg w w1 ([])) (by kernel_rfl) ?_
   replace hM := hM.drew
   refine any_tk hA 0 rfl rfl rfl rfl hP (hM.sub (.cons _ (.cons _ (List.nil_sublist _)))) (fun w1 hM => does_move rfl) ?_
   intro a hA
   refine any_tk hA 1 rfl rfl rfl rfl hP (hM.sub (.cons _ (.cons _ (List.nil_sublist _)))) (fun w1 hM => does_move rfl) ?_
   intro a hA
   obtain ⟨bx44, ox45, hxa46, hxb47, hxc48⟩ := rb_open (i := 2 + 2 * q) hb (by omega)
   refine any_tk (v := .pointer (some ⟨bx44, ox45 + (2 + 2 * q), none⟩)) hA 2 rfl rfl rfl rfl hP (hM.sub (.cons _ (.cons _ (List.nil_sublist _)))) (fun w1 hM => does_indexRow Try.underlying24 (by kernel_rfl) rfl rfl rfl hxa46 (show 2 + 2 * q < l.length by omega)) ?_
   intro a hA
   refine any_tk (v := .int .u8 ((((l.getD (2 + 2 * q) 0).toNat : Nat) : Int))) hA 3 rfl rfl rfl rfl hP (hM.sub (.cons _ (.cons _ (List.nil_sublist _)))) (fun w1 hM => m_loadR hM hxb47 (hxc48 (2 + 2 * q) (by omega)) CpE_is1_5 rfl) ?_
   intro a hA
   have hu49 := (l.getD (2 + 2 * q) 0).toNat_lt
   refine any_tk (v := .int .i32 ((((l.getD (2 + 2 * q) 0).toNat : Nat) : Int))) hA 4 rfl rfl rfl rfl hP (hM.sub (.cons _ (.cons _ (List.nil_sublist _)))) (fun w1 hM => does_convert rfl (ar_conv Try.underlying5 Try.underlying21 (in_i32 (by omega) (by omega)))) ?_
   intro a hA
   refine any_tk (v := .int .i32 ((((l.getD (2 + 2 * q) 0).toNat : Nat) : Int) * 256)) hA 5 rfl rfl rfl rfl hP (hM.sub (.cons _ (.cons _ (List.nil_sublist _)))) (fun w1 hM => does_bin rfl rfl (ar_mul (in_i32 (by omega) (by omega)))) ?_
   intro a hA
   refine any_tk hA 6 rfl rfl rfl rfl hP (hM.sub (.cons _ (.cons _ (List.nil_sublist _)))) (fun w1 hM => does_move rfl) ?_
   intro a hA
   refine any_tk hA 7 rfl rfl rfl rfl hP (hM.sub (.cons _ (.cons _ (List.nil_sublist _)))) (fun w1 hM => does_move rfl) ?_
   intro a hA
   refine any_tk (v := .int .i64 (((2 + 2 * q + 1 : Nat) : Int))) hA 8 rfl rfl rfl rfl hP (hM.sub (.cons _ (.cons _ (List.nil_sublist _)))) (fun w1 hM => does_bin rfl rfl (ar_add ((in_i64 (by omega) (by omega)).trans (by omega)))) ?_
   intro a hA
   obtain ⟨bx50, ox51, hxa52, hxb53, hxc54⟩ := rb_open (i := 2 + 2 * q + 1) hb (by omega)
   refine any_tk (v := .pointer (some ⟨bx50, ox51 + (2 + 2 * q + 1), none⟩)) hA 9 rfl rfl rfl rfl hP (hM.sub (.cons _ (.cons _ (List.nil_sublist _)))) (fun w1 hM => does_indexRow Try.underlying24 (by kernel_rfl) rfl rfl rfl hxa52 (show 2 + 2 * q + 1 < l.length by omega)) ?_
   intro a hA
   refine any_tk (v := .int .u8 ((((l.getD (2 + 2 * q + 1) 0).toNat : Nat) : Int))) hA 10 rfl rfl rfl rfl hP (hM.sub (.cons _ (.cons _ (List.nil_sublist _)))) (fun w1 hM => m_loadR hM hxb53 (hxc54 (2 + 2 * q + 1) (by omega)) CpE_is1_5 rfl) ?_
   intro a hA
   have hu55 := (l.getD (2 + 2 * q + 1) 0).toNat_lt
   refine any_tk (v := .int .i32 ((((l.getD (2 + 2 * q + 1) 0).toNat : Nat) : Int))) hA 11 rfl rfl rfl rfl hP (hM.sub (.cons _ (.cons _ (List.nil_sublist _)))) (fun w1 hM => does_convert rfl (ar_conv Try.underlying5 Try.underlying21 (in_i32 (by omega) (by omega)))) ?_
   intro a hA
   refine any_tk (v := .int .i32 (((hi2 (l.getD (2 + 2 * q) 0).toNat (l.getD (2 + 2 * q + 1) 0).toNat : Nat) : Int))) hA 12 rfl rfl rfl rfl hP (hM.sub (.cons _ (.cons _ (List.nil_sublist _)))) (fun w1 hM => does_bin rfl rfl (ar_add ((in_i32 (by omega) (by omega)).trans (by unfold hi2; omega)))) ?_
   intro a hA
   refine any_tk hA 13 rfl rfl rfl rfl hP (hM.sub (.cons _ (.cons _ (List.nil_sublist _)))) (fun w1 hM => does_assign rfl) ?_
   intro a hA
   refine any_end (by kernel_rfl) ?_
   refine hK43 _ _ ?_
   refine wp_seq_k (fun K56 hK56 => ?_)
   refine wp_seq_k (fun K57 hK57 => ?_)
   refine wp_region_lit ?_
   refine seq_do hA rfl rfl rfl (does_move rfl) ?_
   intro a hA
   refine seq_end ?_
   refine hK57 _ _ ?_
   refine wp_cond_true (hA.ev rfl) ?_
   refine wp_draw (S := fun w1 => Mg w w1 ([])) (by kernel_rfl) ?_
   replace hM := hM.drew
   refine any_tk hA 0 rfl rfl rfl rfl hP (hM.sub (.cons _ (.cons _ (List.nil_sublist _)))) (fun w1 hM => does_move rfl) ?_
   intro a hA
   refine any_tk hA 1 rfl rfl rfl rfl hP (hM.sub (.cons _ (.cons _ (List.nil_sublist _)))) (fun w1 hM => does_move rfl) ?_
   intro a hA
   refine any_tk (v := .int .i64 (((2 + 2 * q + 1 : Nat) : Int))) hA 2 rfl rfl rfl rfl hP (hM.sub (.cons _ (.cons _ (List.nil_sublist _)))) (fun w1 hM => does_bin rfl rfl (ar_add ((in_i64 (by omega) (by omega)).trans (by omega)))) ?_
   intro a hA
   obtain ⟨bx58, ox59, hxa60, hxb61, hxc62⟩ := rb_open (i := 2 + 2 * q + 1) hb (by omega)
   refine any_tk (v := .pointer (some ⟨bx58, ox59 + (2 + 2 * q + 1), none⟩)) hA 3 rfl rfl rfl rfl hP (hM.sub (.cons _ (.cons _ (List.nil_sublist _)))) (fun w1 hM => does_indexRow Try.underlying24 (by kernel_rfl) rfl rfl rfl hxa60 (show 2 + 2 * q + 1 < l.length by omega)) ?_
   intro a hA
   refine any_tk (v := .int .u8 ((((l.getD (2 + 2 * q + 1) 0).toNat : Nat) : Int))) hA 4 rfl rfl rfl rfl hP (hM.sub (.cons _ (.cons _ (List.nil_sublist _)))) (fun w1 hM => m_loadR hM hxb61 (hxc62 (2 + 2 * q + 1) (by omega)) CpE_is1_5 rfl) ?_
   intro a hA
   have hu63 := (l.getD (2 + 2 * q + 1) 0).toNat_lt
   refine any_tk (v := .int .i32 ((((l.getD (2 + 2 * q + 1) 0).toNat : Nat) : Int))) hA 5 rfl rfl rfl rfl hP (hM.sub (.cons _ (.cons _ (List.nil_sublist _)))) (fun w1 hM => does_convert rfl (ar_conv Try.underlying5 Try.underlying21 (in_i32 (by omega) (by omega)))) ?_
   intro a hA
   refine any_tk (v := .int .i32 ((((l.getD (2 + 2 * q + 1) 0).toNat : Nat) : Int) * 256)) hA 6 rfl rfl rfl rfl hP (hM.sub (.cons _ (.cons _ (List.nil_sublist _)))) (fun w1 hM => does_bin rfl rfl (ar_mul (in_i32 (by omega) (by omega)))) ?_
   intro a hA
   refine any_tk hA 7 rfl rfl rfl rfl hP (hM.sub (.cons _ (.cons _ (List.nil_sublist _)))) (fun w1 hM => does_move rfl) ?_
   intro a hA
   refine any_tk hA 8 rfl rfl rfl rfl hP (hM.sub (.cons _ (.cons _ (List.nil_sublist _)))) (fun w1 hM => does_move rfl) ?_
   intro a hA
   obtain ⟨bx64, ox65, hxa66, hxb67, hxc68⟩ := rb_open (i := 2 + 2 * q) hb (by omega)
   refine any_tk (v := .pointer (some ⟨bx64, ox65 + (2 + 2 * q), none⟩)) hA 9 rfl rfl rfl rfl hP (hM.sub (.cons _ (.cons _ (List.nil_sublist _)))) (fun w1 hM => does_indexRow Try.underlying24 (by kernel_rfl) rfl rfl rfl hxa66 (show 2 + 2 * q < l.length by omega)) ?_
   intro a hA
   refine any_tk (v := .int .u8 ((((l.getD (2 + 2 * q) 0).toNat : Nat) : Int))) hA 10 rfl rfl rfl rfl hP (hM.sub (.cons _ (.cons _ (List.nil_sublist _)))) (fun w1 hM => m_loadR hM hxb67 (hxc68 (2 + 2 * q) (by omega)) CpE_is1_5 rfl) ?_
   intro a hA
   have hu69 := (l.getD (2 + 2 * q) 0).toNat_lt
   refine any_tk (v := .int .i32 ((((l.getD (2 + 2 * q) 0).toNat : Nat) : Int))) hA 11 rfl rfl rfl rfl hP (hM.sub (.cons _ (.cons _ (List.nil_sublist _)))) (fun w1 hM => does_convert rfl (ar_conv Try.underlying5 Try.underlying21 (in_i32 (by omega) (by omega)))) ?_
   intro a hA
   refine any_tk (v := .int .i32 (((lo2 (l.getD (2 + 2 * q) 0).toNat (l.getD (2 + 2 * q + 1) 0).toNat : Nat) : Int))) hA 12 rfl rfl rfl rfl hP (hM.sub (.cons _ (.cons _ (List.nil_sublist _)))) (fun w1 hM => does_bin rfl rfl (ar_add ((in_i32 (by omega) (by omega)).trans (by unfold lo2; omega)))) ?_
   intro a hA
   refine any_tk hA 13 rfl rfl rfl rfl hP (hM.sub (.cons _ (.cons _ (List.nil_sublist _)))) (fun w1 hM => does_assign rfl) ?_
   intro a hA
   refine any_end (by kernel_rfl) ?_
   refine hK56 _ _ ?_
   refine wp_region_lit ?_
   refine seq_do hA rfl rfl rfl (does_move rfl) ?_
   intro a hA
   refine seq_do hA rfl rfl rfl (does_move rfl) ?_
   intro a hA
   refine s_litE (e := 21) (sz := 1) (m := 1) (vs := [.int .i32 (((lo2 (l.getD (2 + 2 * q) 0).toNat (l.getD (2 + 2 * q + 1) 0).toNat : Nat) : Int))]) hA hM rfl rfl rfl (does_buildSlice rfl (by kernel_rfl)) rfl rfl (.inl (by decide)) ?_
   intro g70 w71 hM a hA
   refine s_appendE (e := 21) (sz := 1) (k := 1) (q := q) (m := 1) (xs := (runeV (numsL lo2 l 2 q))) (news := [.int .i32 (((lo2 (l.getD (2 + 2 * q) 0).toNat (l.getD (2 + 2 * q + 1) 0).toNat : Nat) : Int))]) (L' := fun v72 => (.row 21 1 (.slice (some ⟨g70, 0, none⟩) 1 1) 1 ([.int .i32 (((lo2 (l.getD (2 + 2 * q) 0).toNat (l.getD (2 + 2 * q + 1) 0).toNat : Nat) : Int))]) :: .row 21 1 (v72) (q + 1) ((runeV (numsL lo2 l 2 q)) ++ [.int .i32 (((lo2 (l.getD (2 + 2 * q) 0).toNat (l.getD (2 + 2 * q + 1) 0).toNat : Nat) : Int))]) :: .row 78 3 (.slice (some ⟨g3, 0, none⟩) 0 0) 0 ([]) :: [])) hA rfl rfl rfl (m_appendE (z := .int .i32 0) (sz := 1) (by_ := 4) Try.underlying74 (by kernel_rfl) rfl rfl rfl hM 1 rfl rfl 0 rfl rfl rfl rfl (by omega)) (fun _ => rfl) ?_
   intro v72 w73 hM a hA
   refine seq_do hA rfl rfl rfl (does_assign rfl) ?_
   intro a hA
   refine seq_end ?_
   refine hK42 _ _ ?_
   refine wp_region_lit ?_
   refine seq_do hA rfl rfl rfl (does_move rfl) ?_
   intro a hA
   refine seq_do (v := .int .i64 (((2 + 2 * q + 2 : Nat) : Int))) hA rfl rfl rfl (does_bin rfl rfl (ar_add ((in_i64 (by omega) (by omega)).trans (by omega)))) ?_
   intro a hA
   refine seq_do hA rfl rfl rfl (does_assign rfl) ?_
   intro a hA
   refine seq_end ?_
   replace hM : Mg w w73 (.row 21 1 (v72) ((q + 1)) ((runeV (numsL lo2 l 2 (q + 1)))) :: .row 78 3 (.slice (some ⟨g3, 0, none⟩) 0 0) 0 ([]) :: []) := by
     have h9 := hM.sub (.cons _ (.cons_cons _ (.cons_cons _ (.refl _))))
     rw [nums_more]
     unfold runeV at h9 ⊢
     rw [List.map_append]
     exact h9
   obtain ⟨so74, ca75, rfl⟩ := owns_sliceE (hM.has 0 rfl)
   refine hK37 _ _ _ (by omega) ⟨q + 1, so74, ca75, rfl, by omega, hA.keep _ ⟨rfl, rfl, rfl, rfl, rfl, rfl, rfl, rfl, rfl, rfl, rfl, rfl, rfl, rfl, rfl, rfl, rfl, rfl, rfl, rfl, rfl, rfl, rfl, rfl, rfl, rfl, rfl, rfl, rfl, rfl, rfl, rfl, rfl, rfl, rfl, rfl, rfl, rfl, trivial⟩, hM⟩
 · have hb41' := of_decide_eq_false hb41
   refine seq_do (v := .bool false) hA rfl rfl rfl (does_bin rfl rfl (fun w => (bin_lss w).trans (by rw [hb41]))) ?_
   intro a hA
   refine seq_end ?_
   refine hK40 _ _ ?_
   refine wp_cond_false (hA.ev rfl) ?_
   refine wp_exit ?_
   refine hK34 _ _ ?_
   refine wp_seq_k (fun K76 hK76 => ?_)
   refine wp_seq_k (fun K77 hK77 => ?_)
   refine wp_region_lit ?_
   refine seq_do hA rfl rfl rfl (does_assign rfl) ?_
   intro a hA
   refine seq_end ?_
   refine hK77 _ _ ?_
   refine wp_block ?_
   refine wp_loop_n (fun m_ a w1 => ∃ (i2 : Nat) (acc : List (Int × Int)) (vo : Value), m_ = q - i2 ∧ (acc ++ restW lo2 l (2 + 2 * i2) = unitsW l ∧ i2 ≤ q ∧ acc.length ≤ i2) ∧ Sl a 175 [(0, .slice so l.length cap), (2, .slice none 0 0), (3, vo), (4, .int .i64 2), (5, .bool true), (6, .slice sn q cn), (7, .int .i64 2), (8, .int .i64 (((2 + 2 * q : Nat) : Int))), (10, .int .i64 (((i2 : Nat) : Int))), (13, .slice (some ⟨g3, 0, none⟩) 0 0), (14, .slice so l.length cap), (15, .int .i64 (((l.length : Nat) : Int))), (16, .bool true), (17, .bool true), (18, .slice so l.length cap), (19, .pointer (some ⟨bx9, ox10 + (0), none⟩)), (20, .int .u8 ((((l.getD (0) 0).toNat : Nat) : Int))), (21, .bool false), (22, .bool false), (23, .bool false), (28, .bool false), (29, .slice so l.length cap), (30, .int .i64 (((l.length : Nat) : Int))), (31, .bool true), (32, .bool true), (33, .slice so l.length cap), (34, .pointer (some ⟨bx17, ox18 + (0), none⟩)), (35, .int .u8 ((((l.getD (0) 0).toNat : Nat) : Int))), (36, .bool true), (37, .bool true), (38, .bool true), (39, .slice so l.length cap), (40, .pointer (some ⟨bx23, ox24 + (1), none⟩)), (41, .int .u8 ((((l.getD (1) 0).toNat : Nat) : Int))), (42, .bool true), (43, .bool true), (44, .slice (some ⟨g31, 0, none⟩) 0 0), (45, .int .i64 2), (46, .int .i64 2), (47, .int .i64 (((2 + 2 * q : Nat) : Int))), (48, .int .i64 (((2 + 2 * q + 1 : Nat) : Int))), (49, .slice so l.length cap), (50, .int .i64 (((l.length : Nat) : Int))), (51, .bool false)] ∧ Mg w w1 (.row 21 1 (.slice sn q cn) q ((runeV (numsL lo2 l 2 q))) :: .row 78 3 (vo) acc.length ((unitV acc)) :: [])) _ ⟨0, [], .slice (some ⟨g3, 0, none⟩) 0 0, rfl, ⟨by rw [Nat.mul_zero, Nat.add_zero, List.nil_append, markW_lo (by omega) (by omega) (by omega)], Nat.zero_le _, Nat.le_refl _⟩, hA.keep _ ⟨rfl, rfl, rfl, rfl, rfl, rfl, rfl, rfl, rfl, rfl, rfl, rfl, rfl, rfl, rfl, rfl, rfl, rfl, rfl, rfl, rfl, rfl, rfl, rfl, rfl, rfl, rfl, rfl, rfl, rfl, rfl, rfl, rfl, rfl, rfl, rfl, rfl, rfl, rfl, rfl, rfl, rfl, rfl, rfl, trivial⟩, hM⟩ ?_
   clear hM hA
   rintro m_ a w78 ⟨i2, acc, vo, rfl, hinv80, hA, hM⟩ K79 hK79
   obtain ⟨hrun, hi9, hacc⟩ := hinv80
   refine wp_seq_k (fun K81 hK81 => ?_)
   refine wp_seq_k (fun K82 hK82 => ?_)
   refine wp_region_lit ?_
   refine seq_do hA rfl rfl rfl (does_move rfl) ?_
   intro a hA
   refine seq_do hA rfl rfl rfl (does_move rfl) ?_
   intro a hA
   refine seq_do (v := .int .i64 (((q : Nat) : Int))) hA rfl rfl rfl (does_len Try.underlying74 rfl) ?_
   intro a hA
   rcases Bool.eq_false_or_eq_true (decide (((i2 : Nat) : Int) < ((q : Nat) : Int))) with hb83 | hb83
   · have hb83' := of_decide_eq_true hb83
     refine seq_do (v := .bool true) hA rfl rfl rfl (does_bin rfl rfl (fun w => (bin_lss w).trans (by rw [hb83]))) ?_
     intro a hA
     refine seq_end ?_
     refine hK82 _ _ ?_
     refine wp_cond_true (hA.ev rfl) ?_
     refine wp_skip ?_
     refine hK81 _ _ ?_
     refine wp_seq_k (fun K84 hK84 => ?_)
     refine wp_block ?_
     refine wp_seq_k (fun K85 hK85 => ?_)
     refine wp_region_lit ?_
     refine seq_do hA rfl rfl rfl (does_move rfl) ?_
     intro a hA
     refine seq_do hA rfl rfl rfl (does_move rfl) ?_
     intro a hA
     obtain ⟨gn, hgn⟩ := row_addr hM 0 rfl (show 0 < q by omega)
     refine seq_do (v := .pointer (some ⟨gn, (i2) * 1, none⟩)) hA rfl rfl rfl (does_indexX Try.underlying74 (by kernel_rfl) rfl rfl rfl hgn (show i2 < q by omega)) ?_
     intro a hA
     obtain ⟨n, hn⟩ : ∃ n : Nat, lo2 (l.getD (2 + 2 * (i2)) 0).toNat (l.getD (2 + 2 * (i2) + 1) 0).toNat = n := ⟨_, rfl⟩
     have hltn : n < 65536 := hn ▸ lo2_lt _ _
     refine seq_do (v := .int .i32 (((n : Nat) : Int))) hA rfl rfl rfl (m_loadX hM 0 rfl hgn ((nums_at (g := lo2) (l := l) (f := 2) (n := q) (j := i2) (by omega)).trans (by rw [hn])) CpE_is1_21 rfl) ?_
     intro a hA
     refine seq_do hA rfl rfl rfl (does_assign rfl) ?_
     intro a hA
     refine seq_end ?_
     refine hK85 _ _ ?_
     refine wp_seq_k (fun K86 hK86 => ?_)
     refine wp_region_lit ?_
     refine seq_do hA rfl rfl rfl (does_move rfl) ?_
     intro a hA
     refine seq_do hA rfl rfl rfl (does_move rfl) ?_
     intro a hA
     refine seq_do (v := .int .i64 (((2 * i2 : Nat) : Int))) hA rfl rfl rfl (does_bin rfl rfl (ar_mul ((in_i64 (by omega) (by omega)).trans (by omega)))) ?_
     intro a hA
     refine seq_do (v := .int .i64 (((2 + 2 * i2 : Nat) : Int))) hA rfl rfl rfl (does_bin rfl rfl (ar_add ((in_i64 (by omega) (by omega)).trans (by omega)))) ?_
     intro a hA
     refine seq_do hA rfl rfl rfl (does_assign rfl) ?_
     intro a hA
     refine seq_end ?_
     refine hK86 _ _ ?_
     refine wp_block ?_
     refine wp_seq_k (fun K87 hK87 => ?_)
     refine wp_region_lit ?_
     refine seq_do hA rfl rfl rfl (does_move rfl) ?_
     intro a hA
     rcases Bool.eq_false_or_eq_true (decide (((n : Nat) : Int) < 55296)) with hb88 | hb88
     · have hb88' := of_decide_eq_true hb88
       refine seq_do (v := .bool true) hA rfl rfl rfl (does_bin rfl rfl (fun w => (bin_lss w).trans (by rw [hb88]))) ?_
       intro a hA
       refine seq_do hA rfl rfl rfl (does_move rfl) ?_
       intro a hA
       refine seq_skip hA rfl rfl rfl ?_
       intro a hA
       refine seq_skip hA rfl rfl rfl ?_
       intro a hA
       refine seq_do (v := .bool true) hA rfl rfl rfl (does_pick rfl rfl rfl rfl) ?_
       intro a hA
       refine seq_do hA rfl rfl rfl (does_assign rfl) ?_
       intro a hA
       refine seq_end ?_
       refine hK87 _ _ ?_
       refine wp_cond_true (hA.ev rfl) ?_
       refine wp_region_lit ?_
       refine seq_do hA rfl rfl rfl (does_move rfl) ?_
       intro a hA
       refine seq_do hA rfl rfl rfl (does_move rfl) ?_
       intro a hA
       refine seq_do hA rfl rfl rfl (does_move rfl) ?_
       intro a hA
       refine seq_do (v := .agg #[.int .i32 (((n : Nat) : Int)), .bool false, .int .i64 (((2 + 2 * i2 : Nat) : Int))]) hA rfl rfl rfl (does_build rfl (fun w => by kernel_rfl)) ?_
       intro a hA
       refine s_litE (e := 78) (sz := 3) (m := 1) (vs := [.int .i32 (((n : Nat) : Int)), .bool false, .int .i64 (((2 + 2 * i2 : Nat) : Int))]) hA hM rfl rfl rfl (does_buildSlice rfl (by kernel_rfl)) rfl rfl (.inl (by decide)) ?_
       intro g89 w90 hM a hA
       refine s_appendE (e := 78) (sz := 3) (k := 2) (q := acc.length) (m := 1) (xs := (unitV acc)) (news := [.int .i32 (((n : Nat) : Int)), .bool false, .int .i64 (((2 + 2 * i2 : Nat) : Int))]) (L' := fun v91 => (.row 78 3 (.slice (some ⟨g89, 0, none⟩) 1 1) 1 ([.int .i32 (((n : Nat) : Int)), .bool false, .int .i64 (((2 + 2 * i2 : Nat) : Int))]) :: .row 21 1 (.slice sn q cn) q ((runeV (numsL lo2 l 2 q))) :: .row 78 3 (v91) (acc.length + 1) ((unitV acc) ++ [.int .i32 (((n : Nat) : Int)), .bool false, .int .i64 (((2 + 2 * i2 : Nat) : Int))]) :: [])) hA rfl rfl rfl (m_appendE (z := .agg #[.int .i32 0, .bool false, .int .i64 0]) (sz := 3) (by_ := 16) Try.underlying75 (by kernel_rfl) rfl rfl rfl hM 2 rfl rfl 0 rfl rfl rfl rfl (by omega)) (fun _ => rfl) ?_
       intro v91 w92 hM a hA
       refine seq_do hA rfl rfl rfl (does_assign rfl) ?_
       intro a hA
       refine seq_end ?_
       refine hK84 _ _ ?_
       refine wp_region_lit ?_
       refine seq_do hA rfl rfl rfl (does_move rfl) ?_
       intro a hA
       refine seq_do (v := .int .i64 (((i2 + 1 : Nat) : Int))) hA rfl rfl rfl (does_bin rfl rfl (ar_add ((in_i64 (by omega) (by omega)).trans (by omega)))) ?_
       intro a hA
       refine seq_do hA rfl rfl rfl (does_assign rfl) ?_
       intro a hA
       refine seq_end ?_
       replace hM : Mg w w92 (.row 21 1 (.slice sn q cn) q ((runeV (numsL lo2 l 2 q))) :: .row 78 3 (v91) ((acc ++ [(((2 + 2 * i2 : Nat) : Int), ((n : Nat) : Int))]).length) ((unitV (acc ++ [(((2 + 2 * i2 : Nat) : Int), ((n : Nat) : Int))]))) :: []) := by
         have h9 := hM.sub (.cons _ (.cons_cons _ (.cons_cons _ (.refl _))))
         rw [unitV_snoc_good (by omega), List.length_append]
         exact h9
       refine hK79 _ _ _ (by omega) ⟨i2 + 1, acc ++ [(((2 + 2 * i2 : Nat) : Int), ((n : Nat) : Int))], v91, rfl, ⟨by rw [← hrun, pair_one (g := lo2) (l := l) (p := 2 + 2 * i2) (by omega) hn (by omega), show 2 + 2 * (i2 + 1) = 2 + 2 * i2 + 2 from by omega, List.append_assoc]; rfl, by omega, by rw [List.length_append]; simp only [List.length_cons, List.length_nil]; omega⟩, hA.keep _ ⟨rfl, rfl, rfl, rfl, rfl, rfl, rfl, rfl, rfl, rfl, rfl, rfl, rfl, rfl, rfl, rfl, rfl, rfl, rfl, rfl, rfl, rfl, rfl, rfl, rfl, rfl, rfl, rfl, rfl, rfl, rfl, rfl, rfl, rfl, rfl, rfl, rfl, rfl, rfl, rfl, rfl, rfl, rfl, rfl, trivial⟩, hM⟩
     · have hb88' := of_decide_eq_false hb88
       refine seq_do (v := .bool false) hA rfl rfl rfl (does_bin rfl rfl (fun w => (bin_lss w).trans (by rw [hb88]))) ?_
       intro a hA
       refine seq_do hA rfl rfl rfl (does_move rfl) ?_
       intro a hA
       refine seq_do hA rfl rfl rfl (does_move rfl) ?_
       intro a hA
       rcases Bool.eq_false_or_eq_true (decide (57343 < ((n : Nat) : Int))) with hb93 | hb93
       · have hb93' := of_decide_eq_true hb93
         refine seq_do (v := .bool true) hA rfl rfl rfl (does_bin rfl rfl (fun w => (bin_gtr w).trans (by rw [hb93]))) ?_
         intro a hA
         refine seq_do (v := .bool true) hA rfl rfl rfl (does_pick rfl rfl rfl rfl) ?_
         intro a hA
         refine seq_do hA rfl rfl rfl (does_assign rfl) ?_
         intro a hA
         refine seq_end ?_
         refine hK87 _ _ ?_
         refine wp_cond_true (hA.ev rfl) ?_
         refine wp_region_lit ?_
         refine seq_do hA rfl rfl rfl (does_move rfl) ?_
         intro a hA
         refine seq_do hA rfl rfl rfl (does_move rfl) ?_
         intro a hA
         refine seq_do hA rfl rfl rfl (does_move rfl) ?_
         intro a hA
         refine seq_do (v := .agg #[.int .i32 (((n : Nat) : Int)), .bool false, .int .i64 (((2 + 2 * i2 : Nat) : Int))]) hA rfl rfl rfl (does_build rfl (fun w => by kernel_rfl)) ?_
         intro a hA
         refine s_litE (e := 78) (sz := 3) (m := 1) (vs := [.int .i32 (((n : Nat) : Int)), .bool false, .int .i64 (((2 + 2 * i2 : Nat) : Int))]) hA hM rfl rfl rfl (does_buildSlice rfl (by kernel_rfl)) rfl rfl (.inl (by decide)) ?_
         intro g94 w95 hM a hA
         refine s_appendE (e := 78) (sz := 3) (k := 2) (q := acc.length) (m := 1) (xs := (unitV acc)) (news := [.int .i32 (((n : Nat) : Int)), .bool false, .int .i64 (((2 + 2 * i2 : Nat) : Int))]) (L' := fun v96 => (.row 78 3 (.slice (some ⟨g94, 0, none⟩) 1 1) 1 ([.int .i32 (((n : Nat) : Int)), .bool false, .int .i64 (((2 + 2 * i2 : Nat) : Int))]) :: .row 21 1 (.slice sn q cn) q ((runeV (numsL lo2 l 2 q))) :: .row 78 3 (v96) (acc.length + 1) ((unitV acc) ++ [.int .i32 (((n : Nat) : Int)), .bool false, .int .i64 (((2 + 2 * i2 : Nat) : Int))]) :: [])) hA rfl rfl rfl (m_appendE (z := .agg #[.int .i32 0, .bool false, .int .i64 0]) (sz := 3) (by_ := 16) Try.underlying75 (by kernel_rfl) rfl rfl rfl hM 2 rfl rfl 0 rfl rfl rfl rfl (by omega)) (fun _ => rfl) ?_
         intro v96 w97 hM a hA
         refine seq_do hA rfl rfl rfl (does_assign rfl) ?_
         intro a hA
         refine seq_end ?_
         refine hK84 _ _ ?_
         refine wp_region_lit ?_
         refine seq_do hA rfl rfl rfl (does_move rfl) ?_
         intro a hA
         refine seq_do (v := .int .i64 (((i2 + 1 : Nat) : Int))) hA rfl rfl rfl (does_bin rfl rfl (ar_add ((in_i64 (by omega) (by omega)).trans (by omega)))) ?_
         intro a hA
         refine seq_do hA rfl rfl rfl (does_assign rfl) ?_
         intro a hA
         refine seq_end ?_
         replace hM : Mg w w97 (.row 21 1 (.slice sn q cn) q ((runeV (numsL lo2 l 2 q))) :: .row 78 3 (v96) ((acc ++ [(((2 + 2 * i2 : Nat) : Int), ((n : Nat) : Int))]).length) ((unitV (acc ++ [(((2 + 2 * i2 : Nat) : Int), ((n : Nat) : Int))]))) :: []) := by
           have h9 := hM.sub (.cons _ (.cons_cons _ (.cons_cons _ (.refl _))))
           rw [unitV_snoc_good (by omega), List.length_append]
           exact h9
         refine hK79 _ _ _ (by omega) ⟨i2 + 1, acc ++ [(((2 + 2 * i2 : Nat) : Int), ((n : Nat) : Int))], v96, rfl, ⟨by rw [← hrun, pair_one (g := lo2) (l := l) (p := 2 + 2 * i2) (by omega) hn (by omega), show 2 + 2 * (i2 + 1) = 2 + 2 * i2 + 2 from by omega, List.append_assoc]; rfl, by omega, by rw [List.length_append]; simp only [List.length_cons, List.length_nil]; omega⟩, hA.keep _ ⟨rfl, rfl, rfl, rfl, rfl, rfl, rfl, rfl, rfl, rfl, rfl, rfl, rfl, rfl, rfl, rfl, rfl, rfl, rfl, rfl, rfl, rfl, rfl, rfl, rfl, rfl, rfl, rfl, rfl, rfl, rfl, rfl, rfl, rfl, rfl, rfl, rfl, rfl, rfl, rfl, rfl, rfl, rfl, rfl, trivial⟩, hM⟩
       · have hb93' := of_decide_eq_false hb93
         refine seq_do (v := .bool false) hA rfl rfl rfl (does_bin rfl rfl (fun w => (bin_gtr w).trans (by rw [hb93]))) ?_
         intro a hA
         refine seq_do (v := .bool false) hA rfl rfl rfl (does_pick rfl rfl rfl rfl) ?_
         intro a hA
         refine seq_do hA rfl rfl rfl (does_assign rfl) ?_
         intro a hA
         refine seq_end ?_
         refine hK87 _ _ ?_
         refine wp_cond_false (hA.ev rfl) ?_
         refine wp_seq_k (fun K98 hK98 => ?_)
         refine wp_region_lit ?_
         refine seq_do hA rfl rfl rfl (does_move rfl) ?_
         intro a hA
         rcases Bool.eq_false_or_eq_true (decide (((n : Nat) : Int) ≤ 56319)) with hb99 | hb99
         · have hb99' := of_decide_eq_true hb99
           refine seq_do (v := .bool true) hA rfl rfl rfl (does_bin rfl rfl (fun w => (bin_leq w).trans (by rw [hb99]))) ?_
           intro a hA
           refine seq_do hA rfl rfl rfl (does_move rfl) ?_
           intro a hA
           refine seq_do hA rfl rfl rfl (does_move rfl) ?_
           intro a hA
           refine seq_do (v := .int .i64 (((i2 + 1 : Nat) : Int))) hA rfl rfl rfl (does_bin rfl rfl (ar_add ((in_i64 (by omega) (by omega)).trans (by omega)))) ?_
           intro a hA
           refine seq_do hA rfl rfl rfl (does_move rfl) ?_
           intro a hA
           refine seq_do (v := .int .i64 (((q : Nat) : Int))) hA rfl rfl rfl (does_len Try.underlying74 rfl) ?_
           intro a hA
           rcases Bool.eq_false_or_eq_true (decide (((i2 + 1 : Nat) : Int) < ((q : Nat) : Int))) with hb100 | hb100
           · have hb100' := of_decide_eq_true hb100
             refine seq_do (v := .bool true) hA rfl rfl rfl (does_bin rfl rfl (fun w => (bin_lss w).trans (by rw [hb100]))) ?_
             intro a hA
             refine seq_do (v := .bool true) hA rfl rfl rfl (does_pick rfl rfl rfl rfl) ?_
             intro a hA
             refine seq_do hA rfl rfl rfl (does_move rfl) ?_
             intro a hA
             refine seq_do hA rfl rfl rfl (does_move rfl) ?_
             intro a hA
             refine seq_do hA rfl rfl rfl (does_move rfl) ?_
             intro a hA
             refine seq_do (v := .int .i64 (((i2 + 1 : Nat) : Int))) hA rfl rfl rfl (does_bin rfl rfl (ar_add ((in_i64 (by omega) (by omega)).trans (by omega)))) ?_
             intro a hA
             refine seq_do (v := .pointer (some ⟨gn, (i2 + 1) * 1, none⟩)) hA rfl rfl rfl (does_indexX Try.underlying74 (by kernel_rfl) rfl rfl rfl hgn (show i2 + 1 < q by omega)) ?_
             intro a hA
             obtain ⟨m9, hm9⟩ : ∃ m9 : Nat, lo2 (l.getD (2 + 2 * (i2 + 1)) 0).toNat (l.getD (2 + 2 * (i2 + 1) + 1) 0).toNat = m9 := ⟨_, rfl⟩
             have hltm9 : m9 < 65536 := hm9 ▸ lo2_lt _ _
             refine seq_do (v := .int .i32 (((m9 : Nat) : Int))) hA rfl rfl rfl (m_loadX hM 0 rfl hgn ((nums_at (g := lo2) (l := l) (f := 2) (n := q) (j := i2 + 1) (by omega)).trans (by rw [hm9])) CpE_is1_21 rfl) ?_
             intro a hA
             rcases Bool.eq_false_or_eq_true (decide (56320 ≤ ((m9 : Nat) : Int))) with hb101 | hb101
             · have hb101' := of_decide_eq_true hb101
               refine seq_do (v := .bool true) hA rfl rfl rfl (does_bin rfl rfl (fun w => (bin_geq w).trans (by rw [hb101]))) ?_
               intro a hA
               refine seq_do (v := .bool true) hA rfl rfl rfl (does_pick rfl rfl rfl rfl) ?_
               intro a hA
               refine seq_do hA rfl rfl rfl (does_move rfl) ?_
               intro a hA
               refine seq_do hA rfl rfl rfl (does_move rfl) ?_
               intro a hA
               refine seq_do hA rfl rfl rfl (does_move rfl) ?_
               intro a hA
               refine seq_do (v := .int .i64 (((i2 + 1 : Nat) : Int))) hA rfl rfl rfl (does_bin rfl rfl (ar_add ((in_i64 (by omega) (by omega)).trans (by omega)))) ?_
               intro a hA
               refine seq_do (v := .pointer (some ⟨gn, (i2 + 1) * 1, none⟩)) hA rfl rfl rfl (does_indexX Try.underlying74 (by kernel_rfl) rfl rfl rfl hgn (show i2 + 1 < q by omega)) ?_
               intro a hA
               refine seq_do (v := .int .i32 (((m9 : Nat) : Int))) hA rfl rfl rfl (m_loadX hM 0 rfl hgn ((nums_at (g := lo2) (l := l) (f := 2) (n := q) (j := i2 + 1) (by omega)).trans (by rw [hm9])) CpE_is1_21 rfl) ?_
               intro a hA
               rcases Bool.eq_false_or_eq_true (decide (((m9 : Nat) : Int) ≤ 57343)) with hb102 | hb102
               · have hb102' := of_decide_eq_true hb102
                 refine seq_do (v := .bool true) hA rfl rfl rfl (does_bin rfl rfl (fun w => (bin_leq w).trans (by rw [hb102]))) ?_
                 intro a hA
                 refine seq_do (v := .bool true) hA rfl rfl rfl (does_pick rfl rfl rfl rfl) ?_
                 intro a hA
                 refine seq_do hA rfl rfl rfl (does_assign rfl) ?_
                 intro a hA
                 refine seq_end ?_
                 refine hK98 _ _ ?_
                 refine wp_cond_true (hA.ev rfl) ?_
                 refine wp_seq_k (fun K103 hK103 => ?_)
                 refine wp_region_lit ?_
                 refine seq_do hA rfl rfl rfl (does_move rfl) ?_
                 intro a hA
                 refine seq_do hA rfl rfl rfl (does_move rfl) ?_
                 intro a hA
                 refine seq_do (v := .int .i32 (((n : Nat) : Int) - 55296)) hA rfl rfl rfl (does_bin rfl rfl (ar_sub (in_i32 (by omega) (by omega)))) ?_
                 intro a hA
                 refine seq_do (v := .int .i32 ((((n : Nat) : Int) - 55296) * 1024)) hA rfl rfl rfl (does_bin rfl rfl (ar_mul (in_i32 (by omega) (by omega)))) ?_
                 intro a hA
                 refine seq_do (v := .int .i32 (65536 + ((((n : Nat) : Int) - 55296) * 1024))) hA rfl rfl rfl (does_bin rfl rfl (ar_add (in_i32 (by omega) (by omega)))) ?_
                 intro a hA
                 refine seq_do hA rfl rfl rfl (does_move rfl) ?_
                 intro a hA
                 refine seq_do hA rfl rfl rfl (does_move rfl) ?_
                 intro a hA
                 refine seq_do (v := .int .i64 (((i2 + 1 : Nat) : Int))) hA rfl rfl rfl (does_bin rfl rfl (ar_add ((in_i64 (by omega) (by omega)).trans (by omega)))) ?_
                 intro a hA
                 refine seq_do (v := .pointer (some ⟨gn, (i2 + 1) * 1, none⟩)) hA rfl rfl rfl (does_indexX Try.underlying74 (by kernel_rfl) rfl rfl rfl hgn (show i2 + 1 < q by omega)) ?_
                 intro a hA
                 refine seq_do (v := .int .i32 (((m9 : Nat) : Int))) hA rfl rfl rfl (m_loadX hM 0 rfl hgn ((nums_at (g := lo2) (l := l) (f := 2) (n := q) (j := i2 + 1) (by omega)).trans (by rw [hm9])) CpE_is1_21 rfl) ?_
                 intro a hA
                 refine seq_do (v := .int .i32 (65536 + ((((n : Nat) : Int) - 55296) * 1024) + (((m9 : Nat) : Int)))) hA rfl rfl rfl (does_bin rfl rfl (ar_add (in_i32 (by omega) (by omega)))) ?_
                 intro a hA
                 refine seq_do (v := .int .i32 (65536 + ((((n : Nat) : Int) - 55296) * 1024) + (((m9 : Nat) : Int)) - 56320)) hA rfl rfl rfl (does_bin rfl rfl (ar_sub (in_i32 (by omega) (by omega)))) ?_
                 intro a hA
                 refine seq_do hA rfl rfl rfl (does_move rfl) ?_
                 intro a hA
                 refine seq_do (v := .agg #[.int .i32 (65536 + ((((n : Nat) : Int) - 55296) * 1024) + (((m9 : Nat) : Int)) - 56320), .bool false, .int .i64 (((2 + 2 * i2 : Nat) : Int))]) hA rfl rfl rfl (does_build rfl (fun w => by kernel_rfl)) ?_
                 intro a hA
                 refine s_litE (e := 78) (sz := 3) (m := 1) (vs := [.int .i32 (65536 + ((((n : Nat) : Int) - 55296) * 1024) + (((m9 : Nat) : Int)) - 56320), .bool false, .int .i64 (((2 + 2 * i2 : Nat) : Int))]) hA hM rfl rfl rfl (does_buildSlice rfl (by kernel_rfl)) rfl rfl (.inl (by decide)) ?_
                 intro g104 w105 hM a hA
                 refine s_appendE (e := 78) (sz := 3) (k := 2) (q := acc.length) (m := 1) (xs := (unitV acc)) (news := [.int .i32 (65536 + ((((n : Nat) : Int) - 55296) * 1024) + (((m9 : Nat) : Int)) - 56320), .bool false, .int .i64 (((2 + 2 * i2 : Nat) : Int))]) (L' := fun v106 => (.row 78 3 (.slice (some ⟨g104, 0, none⟩) 1 1) 1 ([.int .i32 (65536 + ((((n : Nat) : Int) - 55296) * 1024) + (((m9 : Nat) : Int)) - 56320), .bool false, .int .i64 (((2 + 2 * i2 : Nat) : Int))]) :: .row 21 1 (.slice sn q cn) q ((runeV (numsL lo2 l 2 q))) :: .row 78 3 (v106) (acc.length + 1) ((unitV acc) ++ [.int .i32 (65536 + ((((n : Nat) : Int) - 55296) * 1024) + (((m9 : Nat) : Int)) - 56320), .bool false, .int .i64 (((2 + 2 * i2 : Nat) : Int))]) :: [])) hA rfl rfl rfl (m_appendE (z := .agg #[.int .i32 0, .bool false, .int .i64 0]) (sz := 3) (by_ := 16) Try.underlying75 (by kernel_rfl) rfl rfl rfl hM 2 rfl rfl 0 rfl rfl rfl rfl (by omega)) (fun _ => rfl) ?_
                 intro v106 w107 hM a hA
                 refine seq_do hA rfl rfl rfl (does_assign rfl) ?_
                 intro a hA
                 refine seq_end ?_
                 refine hK103 _ _ ?_
                 refine wp_region_lit ?_
                 refine seq_do hA rfl rfl rfl (does_move rfl) ?_
                 intro a hA
                 refine seq_do (v := .int .i64 (((i2 + 1 : Nat) : Int))) hA rfl rfl rfl (does_bin rfl rfl (ar_add ((in_i64 (by omega) (by omega)).trans (by omega)))) ?_
                 intro a hA
                 refine seq_do hA rfl rfl rfl (does_assign rfl) ?_
                 intro a hA
                 refine seq_end ?_
                 refine hK84 _ _ ?_
                 refine wp_region_lit ?_
                 refine seq_do hA rfl rfl rfl (does_move rfl) ?_
                 intro a hA
                 refine seq_do (v := .int .i64 (((i2 + 1 + 1 : Nat) : Int))) hA rfl rfl rfl (does_bin rfl rfl (ar_add ((in_i64 (by omega) (by omega)).trans (by omega)))) ?_
                 intro a hA
                 refine seq_do hA rfl rfl rfl (does_assign rfl) ?_
                 intro a hA
                 refine seq_end ?_
                 replace hM : Mg w w107 (.row 21 1 (.slice sn q cn) q ((runeV (numsL lo2 l 2 q))) :: .row 78 3 (v106) ((acc ++ [(((2 + 2 * i2 : Nat) : Int), 65536 + ((((n : Nat) : Int) - 55296) * 1024) + (((m9 : Nat) : Int)) - 56320)]).length) ((unitV (acc ++ [(((2 + 2 * i2 : Nat) : Int), 65536 + ((((n : Nat) : Int) - 55296) * 1024) + (((m9 : Nat) : Int)) - 56320)]))) :: []) := by
                   have h9 := hM.sub (.cons _ (.cons_cons _ (.cons_cons _ (.refl _))))
                   rw [unitV_snoc_good (by omega), List.length_append]
                   exact h9
                 refine hK79 _ _ _ (by omega) ⟨i2 + 1 + 1, acc ++ [(((2 + 2 * i2 : Nat) : Int), 65536 + ((((n : Nat) : Int) - 55296) * 1024) + (((m9 : Nat) : Int)) - 56320)], v106, rfl, ⟨by rw [← hrun, pair_two (g := lo2) (l := l) (p := 2 + 2 * i2) (by omega) hn (show lo2 (l.getD (2 + 2 * i2 + 2) 0).toNat (l.getD (2 + 2 * i2 + 3) 0).toNat = m9 from hm9) (by omega) (by omega) (by omega) (by omega), show 2 + 2 * (i2 + 1 + 1) = 2 + 2 * i2 + 4 from by omega, List.append_assoc]; rfl, by omega, by rw [List.length_append]; simp only [List.length_cons, List.length_nil]; omega⟩, hA.keep _ ⟨rfl, rfl, rfl, rfl, rfl, rfl, rfl, rfl, rfl, rfl, rfl, rfl, rfl, rfl, rfl, rfl, rfl, rfl, rfl, rfl, rfl, rfl, rfl, rfl, rfl, rfl, rfl, rfl, rfl, rfl, rfl, rfl, rfl, rfl, rfl, rfl, rfl, rfl, rfl, rfl, rfl, rfl, rfl, rfl, trivial⟩, hM⟩
               · have hb102' := of_decide_eq_false hb102
                 refine seq_do (v := .bool false) hA rfl rfl rfl (does_bin rfl rfl (fun w => (bin_leq w).trans (by rw [hb102]))) ?_
                 intro a hA
                 refine seq_do (v := .bool false) hA rfl rfl rfl (does_pick rfl rfl rfl rfl) ?_
                 intro a hA
                 refine seq_do hA rfl rfl rfl (does_assign rfl) ?_
                 intro a hA
                 refine seq_end ?_
                 refine hK98 _ _ ?_
                 refine wp_cond_false (hA.ev rfl) ?_
                 refine wp_region_lit ?_
                 refine seq_do hA rfl rfl rfl (does_move rfl) ?_
                 intro a hA
                 refine seq_do hA rfl rfl rfl (does_move rfl) ?_
                 intro a hA
                 refine seq_do (v := .agg #[.int .i32 0, .bool true, .int .i64 (((2 + 2 * i2 : Nat) : Int))]) hA rfl rfl rfl (does_build rfl (fun w => by kernel_rfl)) ?_
                 intro a hA
                 refine s_litE (e := 78) (sz := 3) (m := 1) (vs := [.int .i32 0, .bool true, .int .i64 (((2 + 2 * i2 : Nat) : Int))]) hA hM rfl rfl rfl (does_buildSlice rfl (by kernel_rfl)) rfl rfl (.inl (by decide)) ?_
                 intro g108 w109 hM a hA
                 refine s_appendE (e := 78) (sz := 3) (k := 2) (q := acc.length) (m := 1) (xs := (unitV acc)) (news := [.int .i32 0, .bool true, .int .i64 (((2 + 2 * i2 : Nat) : Int))]) (L' := fun v110 => (.row 78 3 (.slice (some ⟨g108, 0, none⟩) 1 1) 1 ([.int .i32 0, .bool true, .int .i64 (((2 + 2 * i2 : Nat) : Int))]) :: .row 21 1 (.slice sn q cn) q ((runeV (numsL lo2 l 2 q))) :: .row 78 3 (v110) (acc.length + 1) ((unitV acc) ++ [.int .i32 0, .bool true, .int .i64 (((2 + 2 * i2 : Nat) : Int))]) :: [])) hA rfl rfl rfl (m_appendE (z := .agg #[.int .i32 0, .bool false, .int .i64 0]) (sz := 3) (by_ := 16) Try.underlying75 (by kernel_rfl) rfl rfl rfl hM 2 rfl rfl 0 rfl rfl rfl rfl (by omega)) (fun _ => rfl) ?_
                 intro v110 w111 hM a hA
                 refine seq_do hA rfl rfl rfl (does_assign rfl) ?_
                 intro a hA
                 refine seq_end ?_
                 refine hK84 _ _ ?_
                 refine wp_region_lit ?_
                 refine seq_do hA rfl rfl rfl (does_move rfl) ?_
                 intro a hA
                 refine seq_do (v := .int .i64 (((i2 + 1 : Nat) : Int))) hA rfl rfl rfl (does_bin rfl rfl (ar_add ((in_i64 (by omega) (by omega)).trans (by omega)))) ?_
                 intro a hA
                 refine seq_do hA rfl rfl rfl (does_assign rfl) ?_
                 intro a hA
                 refine seq_end ?_
                 replace hM : Mg w w111 (.row 21 1 (.slice sn q cn) q ((runeV (numsL lo2 l 2 q))) :: .row 78 3 (v110) ((acc ++ [(((2 + 2 * i2 : Nat) : Int), -1)]).length) ((unitV (acc ++ [(((2 + 2 * i2 : Nat) : Int), -1)]))) :: []) := by
                   have h9 := hM.sub (.cons _ (.cons_cons _ (.cons_cons _ (.refl _))))
                   rw [unitV_snoc_bad, List.length_append]
                   exact h9
                 refine hK79 _ _ _ (by omega) ⟨i2 + 1, acc ++ [(((2 + 2 * i2 : Nat) : Int), -1)], v110, rfl, ⟨by rw [← hrun, pair_bad (g := lo2) (l := l) (p := 2 + 2 * i2) (by omega) hn (by omega) (by omega) (fun _ _ => by rw [show lo2 (l.getD (2 + 2 * i2 + 2) 0).toNat (l.getD (2 + 2 * i2 + 3) 0).toNat = m9 from hm9]; omega), show 2 + 2 * (i2 + 1) = 2 + 2 * i2 + 2 from by omega, List.append_assoc]; rfl, by omega, by rw [List.length_append]; simp only [List.length_cons, List.length_nil]; omega⟩, hA.keep _ ⟨rfl, rfl, rfl, rfl, rfl, rfl, rfl, rfl, rfl, rfl, rfl, rfl, rfl, rfl, rfl, rfl, rfl, rfl, rfl, rfl, rfl, rfl, rfl, rfl, rfl, rfl, rfl, rfl, rfl, rfl, rfl, rfl, rfl, rfl, rfl, rfl, rfl, rfl, rfl, rfl, rfl, rfl, rfl, rfl, trivial⟩, hM⟩
             · have hb101' := of_decide_eq_false hb101
               refine seq_do (v := .bool false) hA rfl rfl rfl (does_bin rfl rfl (fun w => (bin_geq w).trans (by rw [hb101]))) ?_
               intro a hA
               refine seq_do (v := .bool false) hA rfl rfl rfl (does_pick rfl rfl rfl rfl) ?_
               intro a hA
               refine seq_do hA rfl rfl rfl (does_move rfl) ?_
               intro a hA
               refine seq_skip hA rfl rfl rfl ?_
               intro a hA
               refine seq_skip hA rfl rfl rfl ?_
               intro a hA
               refine seq_skip hA rfl rfl rfl ?_
               intro a hA
               refine seq_skip hA rfl rfl rfl ?_
               intro a hA
               refine seq_skip hA rfl rfl rfl ?_
               intro a hA
               refine seq_skip hA rfl rfl rfl ?_
               intro a hA
               refine seq_do (v := .bool false) hA rfl rfl rfl (does_pick rfl rfl rfl rfl) ?_
               intro a hA
               refine seq_do hA rfl rfl rfl (does_assign rfl) ?_
               intro a hA
               refine seq_end ?_
               refine hK98 _ _ ?_
               refine wp_cond_false (hA.ev rfl) ?_
               refine wp_region_lit ?_
               refine seq_do hA rfl rfl rfl (does_move rfl) ?_
               intro a hA
               refine seq_do hA rfl rfl rfl (does_move rfl) ?_
               intro a hA
               refine seq_do (v := .agg #[.int .i32 0, .bool true, .int .i64 (((2 + 2 * i2 : Nat) : Int))]) hA rfl rfl rfl (does_build rfl (fun w => by kernel_rfl)) ?_
               intro a hA
               refine s_litE (e := 78) (sz := 3) (m := 1) (vs := [.int .i32 0, .bool true, .int .i64 (((2 + 2 * i2 : Nat) : Int))]) hA hM rfl rfl rfl (does_buildSlice rfl (by kernel_rfl)) rfl rfl (.inl (by decide)) ?_
               intro g112 w113 hM a hA
               refine s_appendE (e := 78) (sz := 3) (k := 2) (q := acc.length) (m := 1) (xs := (unitV acc)) (news := [.int .i32 0, .bool true, .int .i64 (((2 + 2 * i2 : Nat) : Int))]) (L' := fun v114 => (.row 78 3 (.slice (some ⟨g112, 0, none⟩) 1 1) 1 ([.int .i32 0, .bool true, .int .i64 (((2 + 2 * i2 : Nat) : Int))]) :: .row 21 1 (.slice sn q cn) q ((runeV (numsL lo2 l 2 q))) :: .row 78 3 (v114) (acc.length + 1) ((unitV acc) ++ [.int .i32 0, .bool true, .int .i64 (((2 + 2 * i2 : Nat) : Int))]) :: [])) hA rfl rfl rfl (m_appendE (z := .agg #[.int .i32 0, .bool false, .int .i64 0]) (sz := 3) (by_ := 16) Try.underlying75 (by kernel_rfl) rfl rfl rfl hM 2 rfl rfl 0 rfl rfl rfl rfl (by omega)) (fun _ => rfl) ?_
               intro v114 w115 hM a hA
               refine seq_do hA rfl rfl rfl (does_assign rfl) ?_
               intro a hA
               refine seq_end ?_
               refine hK84 _ _ ?_
               refine wp_region_lit ?_
               refine seq_do hA rfl rfl rfl (does_move rfl) ?_
               intro a hA
               refine seq_do (v := .int .i64 (((i2 + 1 : Nat) : Int))) hA rfl rfl rfl (does_bin rfl rfl (ar_add ((in_i64 (by omega) (by omega)).trans (by omega)))) ?_
               intro a hA
               refine seq_do hA rfl rfl rfl (does_assign rfl) ?_
               intro a hA
               refine seq_end ?_
               replace hM : Mg w w115 (.row 21 1 (.slice sn q cn) q ((runeV (numsL lo2 l 2 q))) :: .row 78 3 (v114) ((acc ++ [(((2 + 2 * i2 : Nat) : Int), -1)]).length) ((unitV (acc ++ [(((2 + 2 * i2 : Nat) : Int), -1)]))) :: []) := by
                 have h9 := hM.sub (.cons _ (.cons_cons _ (.cons_cons _ (.refl _))))
                 rw [unitV_snoc_bad, List.length_append]
                 exact h9
               refine hK79 _ _ _ (by omega) ⟨i2 + 1, acc ++ [(((2 + 2 * i2 : Nat) : Int), -1)], v114, rfl, ⟨by rw [← hrun, pair_bad (g := lo2) (l := l) (p := 2 + 2 * i2) (by omega) hn (by omega) (by omega) (fun _ _ => by rw [show lo2 (l.getD (2 + 2 * i2 + 2) 0).toNat (l.getD (2 + 2 * i2 + 3) 0).toNat = m9 from hm9]; omega), show 2 + 2 * (i2 + 1) = 2 + 2 * i2 + 2 from by omega, List.append_assoc]; rfl, by omega, by rw [List.length_append]; simp only [List.length_cons, List.length_nil]; omega⟩, hA.keep _ ⟨rfl, rfl, rfl, rfl, rfl, rfl, rfl, rfl, rfl, rfl, rfl, rfl, rfl, rfl, rfl, rfl, rfl, rfl, rfl, rfl, rfl, rfl, rfl, rfl, rfl, rfl, rfl, rfl, rfl, rfl, rfl, rfl, rfl, rfl, rfl, rfl, rfl, rfl, rfl, rfl, rfl, rfl, rfl, rfl, trivial⟩, hM⟩
           · have hb100' := of_decide_eq_false hb100
             refine seq_do (v := .bool false) hA rfl rfl rfl (does_bin rfl rfl (fun w => (bin_lss w).trans (by rw [hb100]))) ?_
             intro a hA
             refine seq_do (v := .bool false) hA rfl rfl rfl (does_pick rfl rfl rfl rfl) ?_
             intro a hA
             refine seq_do hA rfl rfl rfl (does_move rfl) ?_
             intro a hA
             refine seq_skip hA rfl rfl rfl ?_
             intro a hA
             refine seq_skip hA rfl rfl rfl ?_
             intro a hA
             refine seq_skip hA rfl rfl rfl ?_
             intro a hA
             refine seq_skip hA rfl rfl rfl ?_
             intro a hA
             refine seq_skip hA rfl rfl rfl ?_
             intro a hA
             refine seq_skip hA rfl rfl rfl ?_
             intro a hA
             refine seq_do (v := .bool false) hA rfl rfl rfl (does_pick rfl rfl rfl rfl) ?_
             intro a hA
             refine seq_do hA rfl rfl rfl (does_move rfl) ?_
             intro a hA
             refine seq_skip hA rfl rfl rfl ?_
             intro a hA
             refine seq_skip hA rfl rfl rfl ?_
             intro a hA
             refine seq_skip hA rfl rfl rfl ?_
             intro a hA
             refine seq_skip hA rfl rfl rfl ?_
             intro a hA
             refine seq_skip hA rfl rfl rfl ?_
             intro a hA
             refine seq_skip hA rfl rfl rfl ?_
             intro a hA
             refine seq_do (v := .bool false) hA rfl rfl rfl (does_pick rfl rfl rfl rfl) ?_
             intro a hA
             refine seq_do hA rfl rfl rfl (does_assign rfl) ?_
             intro a hA
             refine seq_end ?_
             refine hK98 _ _ ?_
             refine wp_cond_false (hA.ev rfl) ?_
             refine wp_region_lit ?_
             refine seq_do hA rfl rfl rfl (does_move rfl) ?_
             intro a hA
             refine seq_do hA rfl rfl rfl (does_move rfl) ?_
             intro a hA
             refine seq_do (v := .agg #[.int .i32 0, .bool true, .int .i64 (((2 + 2 * i2 : Nat) : Int))]) hA rfl rfl rfl (does_build rfl (fun w => by kernel_rfl)) ?_
             intro a hA
             refine s_litE (e := 78) (sz := 3) (m := 1) (vs := [.int .i32 0, .bool true, .int .i64 (((2 + 2 * i2 : Nat) : Int))]) hA hM rfl rfl rfl (does_buildSlice rfl (by kernel_rfl)) rfl rfl (.inl (by decide)) ?_
             intro g116 w117 hM a hA
             refine s_appendE (e := 78) (sz := 3) (k := 2) (q := acc.length) (m := 1) (xs := (unitV acc)) (news := [.int .i32 0, .bool true, .int .i64 (((2 + 2 * i2 : Nat) : Int))]) (L' := fun v118 => (.row 78 3 (.slice (some ⟨g116, 0, none⟩) 1 1) 1 ([.int .i32 0, .bool true, .int .i64 (((2 + 2 * i2 : Nat) : Int))]) :: .row 21 1 (.slice sn q cn) q ((runeV (numsL lo2 l 2 q))) :: .row 78 3 (v118) (acc.length + 1) ((unitV acc) ++ [.int .i32 0, .bool true, .int .i64 (((2 + 2 * i2 : Nat) : Int))]) :: [])) hA rfl rfl rfl (m_appendE (z := .agg #[.int .i32 0, .bool false, .int .i64 0]) (sz := 3) (by_ := 16) Try.underlying75 (by kernel_rfl) rfl rfl rfl hM 2 rfl rfl 0 rfl rfl rfl rfl (by omega)) (fun _ => rfl) ?_
             intro v118 w119 hM a hA
             refine seq_do hA rfl rfl rfl (does_assign rfl) ?_
             intro a hA
             refine seq_end ?_
             refine hK84 _ _ ?_
             refine wp_region_lit ?_
             refine seq_do hA rfl rfl rfl (does_move rfl) ?_
             intro a hA
             refine seq_do (v := .int .i64 (((i2 + 1 : Nat) : Int))) hA rfl rfl rfl (does_bin rfl rfl (ar_add ((in_i64 (by omega) (by omega)).trans (by omega)))) ?_
             intro a hA
             refine seq_do hA rfl rfl rfl (does_assign rfl) ?_
             intro a hA
             refine seq_end ?_
             replace hM : Mg w w119 (.row 21 1 (.slice sn q cn) q ((runeV (numsL lo2 l 2 q))) :: .row 78 3 (v118) ((acc ++ [(((2 + 2 * i2 : Nat) : Int), -1)]).length) ((unitV (acc ++ [(((2 + 2 * i2 : Nat) : Int), -1)]))) :: []) := by
               have h9 := hM.sub (.cons _ (.cons_cons _ (.cons_cons _ (.refl _))))
               rw [unitV_snoc_bad, List.length_append]
               exact h9
             refine hK79 _ _ _ (by omega) ⟨i2 + 1, acc ++ [(((2 + 2 * i2 : Nat) : Int), -1)], v118, rfl, ⟨by rw [← hrun, pair_bad (g := lo2) (l := l) (p := 2 + 2 * i2) (by omega) hn (by omega) (by omega) (fun _ _ => by exfalso; omega), show 2 + 2 * (i2 + 1) = 2 + 2 * i2 + 2 from by omega, List.append_assoc]; rfl, by omega, by rw [List.length_append]; simp only [List.length_cons, List.length_nil]; omega⟩, hA.keep _ ⟨rfl, rfl, rfl, rfl, rfl, rfl, rfl, rfl, rfl, rfl, rfl, rfl, rfl, rfl, rfl, rfl, rfl, rfl, rfl, rfl, rfl, rfl, rfl, rfl, rfl, rfl, rfl, rfl, rfl, rfl, rfl, rfl, rfl, rfl, rfl, rfl, rfl, rfl, rfl, rfl, rfl, rfl, rfl, rfl, trivial⟩, hM⟩
         · have hb99' := of_decide_eq_false hb99
           refine seq_do (v := .bool false) hA rfl rfl rfl (does_bin rfl rfl (fun w => (bin_leq w).trans (by rw [hb99]))) ?_
           intro a hA
           refine seq_do hA rfl rfl rfl (does_move rfl) ?_
           intro a hA
           refine seq_skip hA rfl rfl rfl ?_
           intro a hA
           refine seq_skip hA rfl rfl rfl ?_
           intro a hA
           refine seq_skip hA rfl rfl rfl ?_
           intro a hA
           refine seq_skip hA rfl rfl rfl ?_
           intro a hA
           refine seq_skip hA rfl rfl rfl ?_
           intro a hA
           refine seq_do (v := .bool false) hA rfl rfl rfl (does_pick rfl rfl rfl rfl) ?_
           intro a hA
           refine seq_do hA rfl rfl rfl (does_move rfl) ?_
           intro a hA
           refine seq_skip hA rfl rfl rfl ?_
           intro a hA
           refine seq_skip hA rfl rfl rfl ?_
           intro a hA
           refine seq_skip hA rfl rfl rfl ?_
           intro a hA
           refine seq_skip hA rfl rfl rfl ?_
           intro a hA
           refine seq_skip hA rfl rfl rfl ?_
           intro a hA
           refine seq_skip hA rfl rfl rfl ?_
           intro a hA
           refine seq_do (v := .bool false) hA rfl rfl rfl (does_pick rfl rfl rfl rfl) ?_
           intro a hA
           refine seq_do hA rfl rfl rfl (does_move rfl) ?_
           intro a hA
           refine seq_skip hA rfl rfl rfl ?_
           intro a hA
           refine seq_skip hA rfl rfl rfl ?_
           intro a hA
           refine seq_skip hA rfl rfl rfl ?_
           intro a hA
           refine seq_skip hA rfl rfl rfl ?_
           intro a hA
           refine seq_skip hA rfl rfl rfl ?_
           intro a hA
           refine seq_skip hA rfl rfl rfl ?_
           intro a hA
           refine seq_do (v := .bool false) hA rfl rfl rfl (does_pick rfl rfl rfl rfl) ?_
           intro a hA
           refine seq_do hA rfl rfl rfl (does_assign rfl) ?_
           intro a hA
           refine seq_end ?_
           refine hK98 _ _ ?_
           refine wp_cond_false (hA.ev rfl) ?_
           refine wp_region_lit ?_
           refine seq_do hA rfl rfl rfl (does_move rfl) ?_
           intro a hA
           refine seq_do hA rfl rfl rfl (does_move rfl) ?_
           intro a hA
           refine seq_do (v := .agg #[.int .i32 0, .bool true, .int .i64 (((2 + 2 * i2 : Nat) : Int))]) hA rfl rfl rfl (does_build rfl (fun w => by kernel_rfl)) ?_
           intro a hA
           refine s_litE (e := 78) (sz := 3) (m := 1) (vs := [.int .i32 0, .bool true, .int .i64 (((2 + 2 * i2 : Nat) : Int))]) hA hM rfl rfl rfl (does_buildSlice rfl (by kernel_rfl)) rfl rfl (.inl (by decide)) ?_
           intro g120 w121 hM a hA
           refine s_appendE (e := 78) (sz := 3) (k := 2) (q := acc.length) (m := 1) (xs := (unitV acc)) (news := [.int .i32 0, .bool true, .int .i64 (((2 + 2 * i2 : Nat) : Int))]) (L' := fun v122 => (.row 78 3 (.slice (some ⟨g120, 0, none⟩) 1 1) 1 ([.int .i32 0, .bool true, .int .i64 (((2 + 2 * i2 : Nat) : Int))]) :: .row 21 1 (.slice sn q cn) q ((runeV (numsL lo2 l 2 q))) :: .row 78 3 (v122) (acc.length + 1) ((unitV acc) ++ [.int .i32 0, .bool true, .int .i64 (((2 + 2 * i2 : Nat) : Int))]) :: [])) hA rfl rfl rfl (m_appendE (z := .agg #[.int .i32 0, .bool false, .int .i64 0]) (sz := 3) (by_ := 16) Try.underlying75 (by kernel_rfl) rfl rfl rfl hM 2 rfl rfl 0 rfl rfl rfl rfl (by omega)) (fun _ => rfl) ?_
           intro v122 w123 hM a hA
           refine seq_do hA rfl rfl rfl (does_assign rfl) ?_
           intro a hA
           refine seq_end ?_
           refine hK84 _ _ ?_
           refine wp_region_lit ?_
           refine seq_do hA rfl rfl rfl (does_move rfl) ?_
           intro a hA
           refine seq_do (v := .int .i64 (((i2 + 1 : Nat) : Int))) hA rfl rfl rfl (does_bin rfl rfl (ar_add ((in_i64 (by omega) (by omega)).trans (by omega)))) ?_
           intro a hA
           refine seq_do hA rfl rfl rfl (does_assign rfl) ?_
           intro a hA
           refine seq_end ?_
           replace hM : Mg w w123 (.row 21 1 (.slice sn q cn) q ((runeV (numsL lo2 l 2 q))) :: .row 78 3 (v122) ((acc ++ [(((2 + 2 * i2 : Nat) : Int), -1)]).length) ((unitV (acc ++ [(((2 + 2 * i2 : Nat) : Int), -1)]))) :: []) := by
             have h9 := hM.sub (.cons _ (.cons_cons _ (.cons_cons _ (.refl _))))
             rw [unitV_snoc_bad, List.length_append]
             exact h9
           refine hK79 _ _ _ (by omega) ⟨i2 + 1, acc ++ [(((2 + 2 * i2 : Nat) : Int), -1)], v122, rfl, ⟨by rw [← hrun, pair_bad (g := lo2) (l := l) (p := 2 + 2 * i2) (by omega) hn (by omega) (by omega) (fun _ _ => by exfalso; omega), show 2 + 2 * (i2 + 1) = 2 + 2 * i2 + 2 from by omega, List.append_assoc]; rfl, by omega, by rw [List.length_append]; simp only [List.length_cons, List.length_nil]; omega⟩, hA.keep _ ⟨rfl, rfl, rfl, rfl, rfl, rfl, rfl, rfl, rfl, rfl, rfl, rfl, rfl, rfl, rfl, rfl, rfl, rfl, rfl, rfl, rfl, rfl, rfl, rfl, rfl, rfl, rfl, rfl, rfl, rfl, rfl, rfl, rfl, rfl, rfl, rfl, rfl, rfl, rfl, rfl, rfl, rfl, rfl, rfl, trivial⟩, hM⟩
   · have hb83' := of_decide_eq_false hb83
     refine seq_do (v := .bool false) hA rfl rfl rfl (does_bin rfl rfl (fun w => (bin_lss w).trans (by rw [hb83]))) ?_
     intro a hA
     refine seq_end ?_
     refine hK82 _ _ ?_
     refine wp_cond_false (hA.ev rfl) ?_
     refine wp_exit ?_
     refine hK76 _ _ ?_
     refine wp_seq_k (fun K124 hK124 => ?_)
     refine wp_seq_k (fun K125 hK125 => ?_)
     refine wp_region_lit ?_
     refine seq_do hA rfl rfl rfl (does_move rfl) ?_
     intro a hA
     refine seq_do (v := .int .i64 (((l.length : Nat) : Int))) hA rfl rfl rfl (does_len Try.underlying24 rfl) ?_
     intro a hA
     refine seq_do hA rfl rfl rfl (does_move rfl) ?_
     intro a hA
     refine seq_do (v := .int .i64 ((((l.length) - 2 : Nat) : Int))) hA rfl rfl rfl (does_bin rfl rfl (ar_sub ((in_i64 (by omega) (by omega)).trans (by omega)))) ?_
     intro a hA
     refine seq_do (v := .int .i64 (((((l.length) - 2) % 2 : Nat) : Int))) hA rfl rfl rfl (does_bin rfl rfl (ar_rem (by decide) ((Int.tmod_eq_emod_of_nonneg (by omega)).trans (by omega)))) ?_
     intro a hA
     rcases Bool.eq_false_or_eq_true ((((((l.length) - 2) % 2 : Nat) : Int) == 1)) with hb126 | hb126
     · have hb126' := eq_of_beq hb126
       refine seq_do (v := .bool true) hA rfl rfl rfl (does_bin rfl rfl (fun w => (bin_eql w).trans (by rw [hb126]))) ?_
       intro a hA
       refine seq_end ?_
       refine hK125 _ _ ?_
       refine wp_cond_true (hA.ev rfl) ?_
       refine wp_region_lit ?_
       refine seq_do hA rfl rfl rfl (does_move rfl) ?_
       intro a hA
       refine seq_do hA rfl rfl rfl (does_move rfl) ?_
       intro a hA
       refine seq_do (v := .int .i64 (((l.length : Nat) : Int))) hA rfl rfl rfl (does_len Try.underlying24 rfl) ?_
       intro a hA
       refine seq_do (v := .int .i64 ((((l.length) - 1 : Nat) : Int))) hA rfl rfl rfl (does_bin rfl rfl (ar_sub ((in_i64 (by omega) (by omega)).trans (by omega)))) ?_
       intro a hA
       refine seq_do (v := .agg #[.int .i32 0, .bool true, .int .i64 ((((l.length) - 1 : Nat) : Int))]) hA rfl rfl rfl (does_build rfl (fun w => by kernel_rfl)) ?_
       intro a hA
       refine s_litE (e := 78) (sz := 3) (m := 1) (vs := [.int .i32 0, .bool true, .int .i64 ((((l.length) - 1 : Nat) : Int))]) hA hM rfl rfl rfl (does_buildSlice rfl (by kernel_rfl)) rfl rfl (.inl (by decide)) ?_
       intro g127 w128 hM a hA
       refine s_appendE (e := 78) (sz := 3) (k := 2) (q := acc.length) (m := 1) (xs := (unitV acc)) (news := [.int .i32 0, .bool true, .int .i64 ((((l.length) - 1 : Nat) : Int))]) (L' := fun v129 => (.row 78 3 (.slice (some ⟨g127, 0, none⟩) 1 1) 1 ([.int .i32 0, .bool true, .int .i64 ((((l.length) - 1 : Nat) : Int))]) :: .row 21 1 (.slice sn q cn) q ((runeV (numsL lo2 l 2 q))) :: .row 78 3 (v129) (acc.length + 1) ((unitV acc) ++ [.int .i32 0, .bool true, .int .i64 ((((l.length) - 1 : Nat) : Int))]) :: [])) hA rfl rfl rfl (m_appendE (z := .agg #[.int .i32 0, .bool false, .int .i64 0]) (sz := 3) (by_ := 16) Try.underlying75 (by kernel_rfl) rfl rfl rfl hM 2 rfl rfl 0 rfl rfl rfl rfl (by omega)) (fun _ => rfl) ?_
       intro v129 w130 hM a hA
       refine seq_do hA rfl rfl rfl (does_assign rfl) ?_
       intro a hA
       refine seq_end ?_
       refine hK124 _ _ ?_
       refine wp_seq_k (fun K131 hK131 => ?_)
       refine wp_region_lit ?_
       refine seq_do hA rfl rfl rfl (does_move rfl) ?_
       intro a hA
       refine seq_do hA rfl rfl rfl (does_assign rfl) ?_
       intro a hA
       refine seq_end ?_
       refine hK131 _ _ ?_
       refine wp_ret ?_
       refine hret _ _ ?_
       refine ends (v := v129) hA rfl (.cons (res_tmp rfl) .nil) rfl ?_
       replace hM : Mg w w130 (.row 21 1 (.slice sn q cn) q ((runeV (numsL lo2 l 2 q))) :: .row 78 3 (v129) ((acc ++ [((((l.length) - 1 : Nat) : Int), -1)]).length) ((unitV (acc ++ [((((l.length) - 1 : Nat) : Int), -1)]))) :: []) := by
         have h9 := hM.sub (.cons _ (.cons_cons _ (.cons_cons _ (.refl _))))
         rw [unitV_snoc_bad, List.length_append]
         exact h9
       have he9 := pair_end (g := lo2) (l := l) (p := 2 + 2 * i2) (by omega)
       rw [he9, show ((2 + 2 * i2 : Nat) : Int) = (((l.length) - 1 : Nat) : Int) from by omega] at hrun
       rw [← hrun]
       exact ⟨_, rfl, hM.sub (.cons _ (.cons_cons _ (.refl _)))⟩
     · have hb126' := ne_of_beq_false hb126
       refine seq_do (v := .bool false) hA rfl rfl rfl (does_bin rfl rfl (fun w => (bin_eql w).trans (by rw [hb126]))) ?_
       intro a hA
       refine seq_end ?_
       refine hK125 _ _ ?_
       refine wp_cond_false (hA.ev rfl) ?_
       refine wp_skip ?_
       refine hK124 _ _ ?_
       refine wp_seq_k (fun K132 hK132 => ?_)
       refine wp_region_lit ?_
       refine seq_do hA rfl rfl rfl (does_move rfl) ?_
       intro a hA
       refine seq_do hA rfl rfl rfl (does_assign rfl) ?_
       intro a hA
       refine seq_end ?_
       refine hK132 _ _ ?_
       refine wp_ret ?_
       refine hret _ _ ?_
       refine ends (v := vo) hA rfl (.cons (res_tmp rfl) .nil) rfl ?_
       rw [restW_over (by omega), List.append_nil] at hrun
       subst hrun
       exact ⟨_, rfl, hM.sub (.cons _ (.cons_cons _ (.refl _)))⟩
end Go.Proofs.Ytcjgjbaadmohbaa
