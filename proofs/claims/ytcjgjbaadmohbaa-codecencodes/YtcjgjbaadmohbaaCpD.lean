/- Walks of the document's utf16. -/
import Derived.Test.YtcjgjbaadmohbaaCpC
namespace Go.Proofs.Ytcjgjbaadmohbaa
open Go.RowKit
set_option linter.unusedVariables false
set_option linter.unusedSimpArgs false
set_option maxRecDepth 100000
theorem CpD_is1_21 : Is1 Try.prog 21 := ⟨⟨_, Try.underlying21, rfl⟩, by kernel_rfl⟩
theorem CpD_is1_5 : Is1 Try.prog 5 := ⟨⟨_, Try.underlying5, rfl⟩, by kernel_rfl⟩
set_option maxHeartbeats 4000000 in
theorem rutf16_p0 {w : World} {so : Option Addr} {cap : Nat} {l : List UInt8} (hb : Rb w so l) (hlen : l.length ≤ 1000000) (klen : (decide (2 ≤ ((l.length : Nat) : Int))) = false) : Calls Try.prog 71 #[.slice so l.length cap] w fun e w' => ∃ v, e = .returned v ∧ Mg w w' [.row 78 3 v (unitsW l).length (unitV (unitsW l))] := by
 have klen' := of_decide_eq_false klen
 have hM : Mg w w ([]) := Mg.start w
 refine walk_of (l := [(0, .slice so l.length cap)]) Try.func71 rfl Try.ntmps71 rfl rfl ?_
 intro Q hret hnorm hP a hA
 refine wp_seq_k (fun K1 hK1 => ?_)
 refine wp_region_lit ?_
 refine seq_do hA rfl rfl rfl (does_assign rfl) ?_
 intro a hA
 refine seq_end ?_
 refine hK1 _ _ ?_
 refine wp_seq_k (fun K2 hK2 => ?_)
 refine wp_region_lit ?_
 refine s_litE (e := 78) (sz := 3) (m := 0) (vs := []) hA hM rfl rfl rfl (does_buildSlice rfl (by kernel_rfl)) rfl rfl (.inl (by decide)) ?_
 intro g3 w4 hM a hA
 refine seq_do hA rfl rfl rfl (does_assign rfl) ?_
 intro a hA
 refine seq_end ?_
 refine hK2 _ _ ?_
 refine wp_seq_k (fun K5 hK5 => ?_)
 refine wp_region_lit ?_
 refine seq_do hA rfl rfl rfl (does_assign rfl) ?_
 intro a hA
 refine seq_end ?_
 refine hK5 _ _ ?_
 refine wp_seq_k (fun K6 hK6 => ?_)
 refine wp_region_lit ?_
 refine seq_do hA rfl rfl rfl (does_assign rfl) ?_
 intro a hA
 refine seq_end ?_
 refine hK6 _ _ ?_
 refine wp_seq_k (fun K7 hK7 => ?_)
 refine wp_seq_k (fun K8 hK8 => ?_)
 refine wp_region_lit ?_
 refine seq_do hA rfl rfl rfl (does_move rfl) ?_
 intro a hA
 refine seq_do (v := .int .i64 (((l.length : Nat) : Int))) hA rfl rfl rfl (does_len Try.underlying24 rfl) ?_
 intro a hA
 refine seq_do (v := .bool false) hA rfl rfl rfl (does_bin rfl rfl (fun w => (bin_geq w).trans (by rw [show (decide (2 ≤ ((l.length : Nat) : Int))) = false from klen]))) ?_
 intro a hA
 refine seq_do hA rfl rfl rfl (does_move rfl) ?_
 intro a hA
 refine seq_skip hA rfl rfl rfl ?_
 intro a hA
 refine seq_skip hA rfl rfl rfl ?_
 intro a hA
 refine seq_skip hA rfl rfl rfl ?_
 intro a hA
 refine seq_skip hA rfl rfl rfl ?_
 intro a hA
 refine seq_do (v := .bool false) hA rfl rfl rfl (does_pick rfl rfl rfl rfl) ?_
 intro a hA
 refine seq_do hA rfl rfl rfl (does_move rfl) ?_
 intro a hA
 refine seq_skip hA rfl rfl rfl ?_
 intro a hA
 refine seq_skip hA rfl rfl rfl ?_
 intro a hA
 refine seq_skip hA rfl rfl rfl ?_
 intro a hA
 refine seq_skip hA rfl rfl rfl ?_
 intro a hA
 refine seq_do (v := .bool false) hA rfl rfl rfl (does_pick rfl rfl rfl rfl) ?_
 intro a hA
 refine seq_end ?_
 refine hK8 _ _ ?_
 refine wp_cond_false (hA.ev rfl) ?_
 refine wp_skip ?_
 refine hK7 _ _ ?_
 refine wp_seq_k (fun K9 hK9 => ?_)
 refine wp_seq_k (fun K10 hK10 => ?_)
 refine wp_region_lit ?_
 refine seq_do hA rfl rfl rfl (does_move rfl) ?_
 intro a hA
 refine seq_do (v := .int .i64 (((l.length : Nat) : Int))) hA rfl rfl rfl (does_len Try.underlying24 rfl) ?_
 intro a hA
 refine seq_do (v := .bool false) hA rfl rfl rfl (does_bin rfl rfl (fun w => (bin_geq w).trans (by rw [show (decide (2 ≤ ((l.length : Nat) : Int))) = false from klen]))) ?_
 intro a hA
 refine seq_do hA rfl rfl rfl (does_move rfl) ?_
 intro a hA
 refine seq_skip hA rfl rfl rfl ?_
 intro a hA
 refine seq_skip hA rfl rfl rfl ?_
 intro a hA
 refine seq_skip hA rfl rfl rfl ?_
 intro a hA
 refine seq_skip hA rfl rfl rfl ?_
 intro a hA
 refine seq_do (v := .bool false) hA rfl rfl rfl (does_pick rfl rfl rfl rfl) ?_
 intro a hA
 refine seq_do hA rfl rfl rfl (does_move rfl) ?_
 intro a hA
 refine seq_skip hA rfl rfl rfl ?_
 intro a hA
 refine seq_skip hA rfl rfl rfl ?_
 intro a hA
 refine seq_skip hA rfl rfl rfl ?_
 intro a hA
 refine seq_skip hA rfl rfl rfl ?_
 intro a hA
 refine seq_do (v := .bool false) hA rfl rfl rfl (does_pick rfl rfl rfl rfl) ?_
 intro a hA
 refine seq_end ?_
 refine hK10 _ _ ?_
 refine wp_cond_false (hA.ev rfl) ?_
 refine wp_skip ?_
 refine hK9 _ _ ?_
 refine wp_seq_k (fun K11 hK11 => ?_)
 refine wp_region_lit ?_
 refine s_litE (e := 21) (sz := 1) (m := 0) (vs := []) hA hM rfl rfl rfl (does_buildSlice rfl (by kernel_rfl)) rfl rfl (.inl (by decide)) ?_
 intro g12 w13 hM a hA
 refine seq_do hA rfl rfl rfl (does_assign rfl) ?_
 intro a hA
 refine seq_end ?_
 refine hK11 _ _ ?_
 refine wp_seq_k (fun K14 hK14 => ?_)
 refine wp_region_lit ?_
 refine seq_do hA rfl rfl rfl (does_move rfl) ?_
 intro a hA
 refine seq_do hA rfl rfl rfl (does_assign rfl) ?_
 intro a hA
 refine seq_end ?_
 refine hK14 _ _ ?_
 refine wp_seq_k (fun K15 hK15 => ?_)
 refine wp_seq_k (fun K16 hK16 => ?_)
 refine wp_region_lit ?_
 refine seq_do hA rfl rfl rfl (does_move rfl) ?_
 intro a hA
 refine seq_do hA rfl rfl rfl (does_assign rfl) ?_
 intro a hA
 refine seq_end ?_
 refine hK16 _ _ ?_
 refine wp_block ?_
 refine wp_loop_n (fun m_ a w1 => ∃ (q : Nat) (sn : Option Addr) (cn : Nat), m_ = l.length - q ∧ (0 + 2 * q ≤ l.length ∨ q = 0) ∧ Sl a 175 [(0, .slice so l.length cap), (2, .slice none 0 0), (3, .slice (some ⟨g3, 0, none⟩) 0 0), (4, .int .i64 0), (5, .bool false), (6, .slice sn q cn), (7, .int .i64 0), (8, .int .i64 (((0 + 2 * q : Nat) : Int))), (13, .slice (some ⟨g3, 0, none⟩) 0 0), (14, .slice so l.length cap), (15, .int .i64 (((l.length : Nat) : Int))), (16, .bool false), (17, .bool false), (22, .bool false), (23, .bool false), (28, .bool false), (29, .slice so l.length cap), (30, .int .i64 (((l.length : Nat) : Int))), (31, .bool false), (32, .bool false), (37, .bool false), (38, .bool false), (43, .bool false), (44, .slice (some ⟨g12, 0, none⟩) 0 0), (45, .int .i64 0), (46, .int .i64 0)] ∧ Mg w w1 (.row 21 1 (.slice sn q cn) q ((runeV (numsL hi2 l 0 q))) :: .row 78 3 (.slice (some ⟨g3, 0, none⟩) 0 0) 0 ([]) :: [])) _ ⟨0, some ⟨g12, 0, none⟩, 0, rfl, by omega, hA.keep _ ⟨rfl, rfl, rfl, rfl, rfl, rfl, rfl, rfl, rfl, rfl, rfl, rfl, rfl, rfl, rfl, rfl, rfl, rfl, rfl, rfl, rfl, rfl, rfl, rfl, rfl, rfl, trivial⟩, hM⟩ ?_
 clear hM hA
 rintro m_ a w17 ⟨q, sn, cn, rfl, hinv19, hA, hM⟩ K18 hK18
 refine wp_seq_k (fun K20 hK20 => ?_)
 refine wp_seq_k (fun K21 hK21 => ?_)
 refine wp_region_lit ?_
 refine seq_do hA rfl rfl rfl (does_move rfl) ?_
 intro a hA
 refine seq_do (v := .int .i64 (((0 + 2 * q + 1 : Nat) : Int))) hA rfl rfl rfl (does_bin rfl rfl (ar_add ((in_i64 (by omega) (by omega)).trans (by omega)))) ?_
 intro a hA
 refine seq_do hA rfl rfl rfl (does_move rfl) ?_
 intro a hA
 refine seq_do (v := .int .i64 (((l.length : Nat) : Int))) hA rfl rfl rfl (does_len Try.underlying24 rfl) ?_
 intro a hA
 rcases Bool.eq_false_or_eq_true (decide (((0 + 2 * q + 1 : Nat) : Int) < ((l.length : Nat) : Int))) with hb22 | hb22
 · have hb22' := of_decide_eq_true hb22
   refine seq_do (v := .bool true) hA rfl rfl rfl (does_bin rfl rfl (fun w => (bin_lss w).trans (by rw [hb22]))) ?_
   intro a hA
   refine seq_end ?_
   refine hK21 _ _ ?_
   refine wp_cond_true (hA.ev rfl) ?_
   refine wp_skip ?_
   refine hK20 _ _ ?_
   refine wp_seq_k (fun K23 hK23 => ?_)
   refine wp_block ?_
   refine wp_seq_k (fun K24 hK24 => ?_)
   refine wp_draw (S := fun w1 => Mg w w1 ([])) (by kernel_rfl) ?_
   replace hM := hM.drew
   refine any_tk hA 0 rfl rfl rfl rfl hP (hM.sub (.cons _ (.cons _ (List.nil_sublist _)))) (fun w1 hM => does_move rfl) ?_
   intro a hA
   refine any_tk hA 1 rfl rfl rfl rfl hP (hM.sub (.cons _ (.cons _ (List.nil_sublist _)))) (fun w1 hM => does_move rfl) ?_
   intro a hA
   obtain ⟨bx25, ox26, hxa27, hxb28, hxc29⟩ := rb_open (i := 0 + 2 * q) hb (by omega)
   refine any_tk (v := .pointer (some ⟨bx25, ox26 + (0 + 2 * q), none⟩)) hA 2 rfl rfl rfl rfl hP (hM.sub (.cons _ (.cons _ (List.nil_sublist _)))) (fun w1 hM => does_indexRow Try.underlying24 (by kernel_rfl) rfl rfl rfl hxa27 (show 0 + 2 * q < l.length by omega)) ?_
   intro a hA
   refine any_tk (v := .int .u8 ((((l.getD (0 + 2 * q) 0).toNat : Nat) : Int))) hA 3 rfl rfl rfl rfl hP (hM.sub (.cons _ (.cons _ (List.nil_sublist _)))) (fun w1 hM => m_loadR hM hxb28 (hxc29 (0 + 2 * q) (by omega)) CpD_is1_5 rfl) ?_
   intro a hA
   have hu30 := (l.getD (0 + 2 * q) 0).toNat_lt
   refine any_tk (v := .int .i32 ((((l.getD (0 + 2 * q) 0).toNat : Nat) : Int))) hA 4 rfl rfl rfl rfl hP (hM.sub (.cons _ (.cons _ (List.nil_sublist _)))) (fun w1 hM => does_convert rfl (ar_conv Try.underlying5 Try.underlying21 (in_i32 (by omega) (by omega)))) ?_
   intro a hA
   refine any_tk (v := .int .i32 ((((l.getD (0 + 2 * q) 0).toNat : Nat) : Int) * 256)) hA 5 rfl rfl rfl rfl hP (hM.sub (.cons _ (.cons _ (List.nil_sublist _)))) (fun w1 hM => does_bin rfl rfl (ar_mul (in_i32 (by omega) (by omega)))) ?_
   intro a hA
   refine any_tk hA 6 rfl rfl rfl rfl hP (hM.sub (.cons _ (.cons _ (List.nil_sublist _)))) (fun w1 hM => does_move rfl) ?_
   intro a hA
   refine any_tk hA 7 rfl rfl rfl rfl hP (hM.sub (.cons _ (.cons _ (List.nil_sublist _)))) (fun w1 hM => does_move rfl) ?_
   intro a hA
   refine any_tk (v := .int .i64 (((0 + 2 * q + 1 : Nat) : Int))) hA 8 rfl rfl rfl rfl hP (hM.sub (.cons _ (.cons _ (List.nil_sublist _)))) (fun w1 hM => does_bin rfl rfl (ar_add ((in_i64 (by omega) (by omega)).trans (by omega)))) ?_
   intro a hA
   obtain ⟨bx31, ox32, hxa33, hxb34, hxc35⟩ := rb_open (i := 0 + 2 * q + 1) hb (by omega)
   refine any_tk (v := .pointer (some ⟨bx31, ox32 + (0 + 2 * q + 1), none⟩)) hA 9 rfl rfl rfl rfl hP (hM.sub (.cons _ (.cons _ (List.nil_sublist _)))) (fun w1 hM => does_indexRow Try.underlying24 (by kernel_rfl) rfl rfl rfl hxa33 (show 0 + 2 * q + 1 < l.length by omega)) ?_
   intro a hA
   refine any_tk (v := .int .u8 ((((l.getD (0 + 2 * q + 1) 0).toNat : Nat) : Int))) hA 10 rfl rfl rfl rfl hP (hM.sub (.cons _ (.cons _ (List.nil_sublist _)))) (fun w1 hM => m_loadR hM hxb34 (hxc35 (0 + 2 * q + 1) (by omega)) CpD_is1_5 rfl) ?_
   intro a hA
   have hu36 := (l.getD (0 + 2 * q + 1) 0).toNat_lt
   refine any_tk (v := .int .i32 ((((l.getD (0 + 2 * q + 1) 0).toNat : Nat) : Int))) hA 11 rfl rfl rfl rfl hP (hM.sub (.cons _ (.cons _ (List.nil_sublist _)))) (fun w1 hM => does_convert rfl (ar_conv Try.underlying5 Try.underlying21 (in_i32 (by omega) (by omega)))) ?_
   intro a hA
   refine any_tk (v := .int .i32 (((hi2 (l.getD (0 + 2 * q) 0).toNat (l.getD (0 + 2 * q + 1) 0).toNat : Nat) : Int))) hA 12 rfl rfl rfl rfl hP (hM.sub (.cons _ (.cons _ (List.nil_sublist _)))) (fun w1 hM => does_bin rfl rfl (ar_add ((in_i32 (by omega) (by omega)).trans (by unfold hi2; omega)))) ?_
   intro a hA
   refine any_tk hA 13 rfl rfl rfl rfl hP (hM.sub (.cons _ (.cons _ (List.nil_sublist _)))) (fun w1 hM => does_assign rfl) ?_
   intro a hA
   refine any_end (by kernel_rfl) ?_
   refine hK24 _ _ ?_
   refine wp_seq_k (fun K37 hK37 => ?_)
   refine wp_seq_k (fun K38 hK38 => ?_)
   refine wp_region_lit ?_
   refine seq_do hA rfl rfl rfl (does_move rfl) ?_
   intro a hA
   refine seq_end ?_
   refine hK38 _ _ ?_
   refine wp_cond_false (hA.ev rfl) ?_
   refine wp_skip ?_
   refine hK37 _ _ ?_
   refine wp_region_lit ?_
   refine seq_do hA rfl rfl rfl (does_move rfl) ?_
   intro a hA
   refine seq_do hA rfl rfl rfl (does_move rfl) ?_
   intro a hA
   refine s_litE (e := 21) (sz := 1) (m := 1) (vs := [.int .i32 (((hi2 (l.getD (0 + 2 * q) 0).toNat (l.getD (0 + 2 * q + 1) 0).toNat : Nat) : Int))]) hA hM rfl rfl rfl (does_buildSlice rfl (by kernel_rfl)) rfl rfl (.inl (by decide)) ?_
   intro g39 w40 hM a hA
   refine s_appendE (e := 21) (sz := 1) (k := 1) (q := q) (m := 1) (xs := (runeV (numsL hi2 l 0 q))) (news := [.int .i32 (((hi2 (l.getD (0 + 2 * q) 0).toNat (l.getD (0 + 2 * q + 1) 0).toNat : Nat) : Int))]) (L' := fun v41 => (.row 21 1 (.slice (some ⟨g39, 0, none⟩) 1 1) 1 ([.int .i32 (((hi2 (l.getD (0 + 2 * q) 0).toNat (l.getD (0 + 2 * q + 1) 0).toNat : Nat) : Int))]) :: .row 21 1 (v41) (q + 1) ((runeV (numsL hi2 l 0 q)) ++ [.int .i32 (((hi2 (l.getD (0 + 2 * q) 0).toNat (l.getD (0 + 2 * q + 1) 0).toNat : Nat) : Int))]) :: .row 78 3 (.slice (some ⟨g3, 0, none⟩) 0 0) 0 ([]) :: [])) hA rfl rfl rfl (m_appendE (z := .int .i32 0) (sz := 1) (by_ := 4) Try.underlying74 (by kernel_rfl) rfl rfl rfl hM 1 rfl rfl 0 rfl rfl rfl rfl (by omega)) (fun _ => rfl) ?_
   intro v41 w42 hM a hA
   refine seq_do hA rfl rfl rfl (does_assign rfl) ?_
   intro a hA
   refine seq_end ?_
   refine hK23 _ _ ?_
   refine wp_region_lit ?_
   refine seq_do hA rfl rfl rfl (does_move rfl) ?_
   intro a hA
   refine seq_do (v := .int .i64 (((0 + 2 * q + 2 : Nat) : Int))) hA rfl rfl rfl (does_bin rfl rfl (ar_add ((in_i64 (by omega) (by omega)).trans (by omega)))) ?_
   intro a hA
   refine seq_do hA rfl rfl rfl (does_assign rfl) ?_
   intro a hA
   refine seq_end ?_
   replace hM : Mg w w42 (.row 21 1 (v41) ((q + 1)) ((runeV (numsL hi2 l 0 (q + 1)))) :: .row 78 3 (.slice (some ⟨g3, 0, none⟩) 0 0) 0 ([]) :: []) := by
     have h9 := hM.sub (.cons _ (.cons_cons _ (.cons_cons _ (.refl _))))
     rw [nums_more]
     unfold runeV at h9 ⊢
     rw [List.map_append]
     exact h9
   obtain ⟨so43, ca44, rfl⟩ := owns_sliceE (hM.has 0 rfl)
   refine hK18 _ _ _ (by omega) ⟨q + 1, so43, ca44, rfl, by omega, hA.keep _ ⟨rfl, rfl, rfl, rfl, rfl, rfl, rfl, rfl, rfl, rfl, rfl, rfl, rfl, rfl, rfl, rfl, rfl, rfl, rfl, rfl, rfl, rfl, rfl, rfl, rfl, rfl, trivial⟩, hM⟩
 · have hb22' := of_decide_eq_false hb22
   refine seq_do (v := .bool false) hA rfl rfl rfl (does_bin rfl rfl (fun w => (bin_lss w).trans (by rw [hb22]))) ?_
   intro a hA
   refine seq_end ?_
   refine hK21 _ _ ?_
   refine wp_cond_false (hA.ev rfl) ?_
   refine wp_exit ?_
   refine hK15 _ _ ?_
   refine wp_seq_k (fun K45 hK45 => ?_)
   refine wp_seq_k (fun K46 hK46 => ?_)
   refine wp_region_lit ?_
   refine seq_do hA rfl rfl rfl (does_assign rfl) ?_
   intro a hA
   refine seq_end ?_
   refine hK46 _ _ ?_
   refine wp_block ?_
   refine wp_loop_n (fun m_ a w1 => ∃ (i2 : Nat) (acc : List (Int × Int)) (vo : Value), m_ = q - i2 ∧ (acc ++ restW hi2 l (0 + 2 * i2) = unitsW l ∧ i2 ≤ q ∧ acc.length ≤ i2) ∧ Sl a 175 [(0, .slice so l.length cap), (2, .slice none 0 0), (3, vo), (4, .int .i64 0), (5, .bool false), (6, .slice sn q cn), (7, .int .i64 0), (8, .int .i64 (((0 + 2 * q : Nat) : Int))), (10, .int .i64 (((i2 : Nat) : Int))), (13, .slice (some ⟨g3, 0, none⟩) 0 0), (14, .slice so l.length cap), (15, .int .i64 (((l.length : Nat) : Int))), (16, .bool false), (17, .bool false), (22, .bool false), (23, .bool false), (28, .bool false), (29, .slice so l.length cap), (30, .int .i64 (((l.length : Nat) : Int))), (31, .bool false), (32, .bool false), (37, .bool false), (38, .bool false), (43, .bool false), (44, .slice (some ⟨g12, 0, none⟩) 0 0), (45, .int .i64 0), (46, .int .i64 0), (47, .int .i64 (((0 + 2 * q : Nat) : Int))), (48, .int .i64 (((0 + 2 * q + 1 : Nat) : Int))), (49, .slice so l.length cap), (50, .int .i64 (((l.length : Nat) : Int))), (51, .bool false)] ∧ Mg w w1 (.row 21 1 (.slice sn q cn) q ((runeV (numsL hi2 l 0 q))) :: .row 78 3 (vo) acc.length ((unitV acc)) :: [])) _ ⟨0, [], .slice (some ⟨g3, 0, none⟩) 0 0, rfl, ⟨by rw [Nat.mul_zero, Nat.add_zero, List.nil_append, markW_no (by omega)], Nat.zero_le _, Nat.le_refl _⟩, hA.keep _ ⟨rfl, rfl, rfl, rfl, rfl, rfl, rfl, rfl, rfl, rfl, rfl, rfl, rfl, rfl, rfl, rfl, rfl, rfl, rfl, rfl, rfl, rfl, rfl, rfl, rfl, rfl, rfl, rfl, rfl, rfl, rfl, rfl, trivial⟩, hM⟩ ?_
   clear hM hA
   rintro m_ a w47 ⟨i2, acc, vo, rfl, hinv49, hA, hM⟩ K48 hK48
   obtain ⟨hrun, hi9, hacc⟩ := hinv49
   refine wp_seq_k (fun K50 hK50 => ?_)
   refine wp_seq_k (fun K51 hK51 => ?_)
   refine wp_region_lit ?_
   refine seq_do hA rfl rfl rfl (does_move rfl) ?_
   intro a hA
   refine seq_do hA rfl rfl rfl (does_move rfl) ?_
   intro a hA
   refine seq_do (v := .int .i64 (((q : Nat) : Int))) hA rfl rfl rfl (does_len Try.underlying74 rfl) ?_
   intro a hA
   rcases Bool.eq_false_or_eq_true (decide (((i2 : Nat) : Int) < ((q : Nat) : Int))) with hb52 | hb52
   · have hb52' := of_decide_eq_true hb52
     refine seq_do (v := .bool true) hA rfl rfl rfl (does_bin rfl rfl (fun w => (bin_lss w).trans (by rw [hb52]))) ?_
     intro a hA
     refine seq_end ?_
     refine hK51 _ _ ?_
     refine wp_cond_true (hA.ev rfl) ?_
     refine wp_skip ?_
     refine hK50 _ _ ?_
     refine wp_seq_k (fun K53 hK53 => ?_)
     refine wp_block ?_
     refine wp_seq_k (fun K54 hK54 => ?_)
     refine wp_region_lit ?_
     refine seq_do hA rfl rfl rfl (does_move rfl) ?_
     intro a hA
     refine seq_do hA rfl rfl rfl (does_move rfl) ?_
     intro a hA
     obtain ⟨gn, hgn⟩ := row_addr hM 0 rfl (show 0 < q by omega)
     refine seq_do (v := .pointer (some ⟨gn, (i2) * 1, none⟩)) hA rfl rfl rfl (does_indexX Try.underlying74 (by kernel_rfl) rfl rfl rfl hgn (show i2 < q by omega)) ?_
     intro a hA
     obtain ⟨n, hn⟩ : ∃ n : Nat, hi2 (l.getD (0 + 2 * (i2)) 0).toNat (l.getD (0 + 2 * (i2) + 1) 0).toNat = n := ⟨_, rfl⟩
     have hltn : n < 65536 := hn ▸ hi2_lt _ _
     refine seq_do (v := .int .i32 (((n : Nat) : Int))) hA rfl rfl rfl (m_loadX hM 0 rfl hgn ((nums_at (g := hi2) (l := l) (f := 0) (n := q) (j := i2) (by omega)).trans (by rw [hn])) CpD_is1_21 rfl) ?_
     intro a hA
     refine seq_do hA rfl rfl rfl (does_assign rfl) ?_
     intro a hA
     refine seq_end ?_
     refine hK54 _ _ ?_
     refine wp_seq_k (fun K55 hK55 => ?_)
     refine wp_region_lit ?_
     refine seq_do hA rfl rfl rfl (does_move rfl) ?_
     intro a hA
     refine seq_do hA rfl rfl rfl (does_move rfl) ?_
     intro a hA
     refine seq_do (v := .int .i64 (((2 * i2 : Nat) : Int))) hA rfl rfl rfl (does_bin rfl rfl (ar_mul ((in_i64 (by omega) (by omega)).trans (by omega)))) ?_
     intro a hA
     refine seq_do (v := .int .i64 (((0 + 2 * i2 : Nat) : Int))) hA rfl rfl rfl (does_bin rfl rfl (ar_add ((in_i64 (by omega) (by omega)).trans (by omega)))) ?_
     intro a hA
     refine seq_do hA rfl rfl rfl (does_assign rfl) ?_
     intro a hA
     refine seq_end ?_
     refine hK55 _ _ ?_
     refine wp_block ?_
     refine wp_seq_k (fun K56 hK56 => ?_)
     refine wp_region_lit ?_
     refine seq_do hA rfl rfl rfl (does_move rfl) ?_
     intro a hA
     rcases Bool.eq_false_or_eq_true (decide (((n : Nat) : Int) < 55296)) with hb57 | hb57
     · have hb57' := of_decide_eq_true hb57
       refine seq_do (v := .bool true) hA rfl rfl rfl (does_bin rfl rfl (fun w => (bin_lss w).trans (by rw [hb57]))) ?_
       intro a hA
       refine seq_do hA rfl rfl rfl (does_move rfl) ?_
       intro a hA
       refine seq_skip hA rfl rfl rfl ?_
       intro a hA
       refine seq_skip hA rfl rfl rfl ?_
       intro a hA
       refine seq_do (v := .bool true) hA rfl rfl rfl (does_pick rfl rfl rfl rfl) ?_
       intro a hA
       refine seq_do hA rfl rfl rfl (does_assign rfl) ?_
       intro a hA
       refine seq_end ?_
       refine hK56 _ _ ?_
       refine wp_cond_true (hA.ev rfl) ?_
       refine wp_region_lit ?_
       refine seq_do hA rfl rfl rfl (does_move rfl) ?_
       intro a hA
       refine seq_do hA rfl rfl rfl (does_move rfl) ?_
       intro a hA
       refine seq_do hA rfl rfl rfl (does_move rfl) ?_
       intro a hA
       refine seq_do (v := .agg #[.int .i32 (((n : Nat) : Int)), .bool false, .int .i64 (((0 + 2 * i2 : Nat) : Int))]) hA rfl rfl rfl (does_build rfl (fun w => by kernel_rfl)) ?_
       intro a hA
       refine s_litE (e := 78) (sz := 3) (m := 1) (vs := [.int .i32 (((n : Nat) : Int)), .bool false, .int .i64 (((0 + 2 * i2 : Nat) : Int))]) hA hM rfl rfl rfl (does_buildSlice rfl (by kernel_rfl)) rfl rfl (.inl (by decide)) ?_
       intro g58 w59 hM a hA
       refine s_appendE (e := 78) (sz := 3) (k := 2) (q := acc.length) (m := 1) (xs := (unitV acc)) (news := [.int .i32 (((n : Nat) : Int)), .bool false, .int .i64 (((0 + 2 * i2 : Nat) : Int))]) (L' := fun v60 => (.row 78 3 (.slice (some ⟨g58, 0, none⟩) 1 1) 1 ([.int .i32 (((n : Nat) : Int)), .bool false, .int .i64 (((0 + 2 * i2 : Nat) : Int))]) :: .row 21 1 (.slice sn q cn) q ((runeV (numsL hi2 l 0 q))) :: .row 78 3 (v60) (acc.length + 1) ((unitV acc) ++ [.int .i32 (((n : Nat) : Int)), .bool false, .int .i64 (((0 + 2 * i2 : Nat) : Int))]) :: [])) hA rfl rfl rfl (m_appendE (z := .agg #[.int .i32 0, .bool false, .int .i64 0]) (sz := 3) (by_ := 16) Try.underlying75 (by kernel_rfl) rfl rfl rfl hM 2 rfl rfl 0 rfl rfl rfl rfl (by omega)) (fun _ => rfl) ?_
       intro v60 w61 hM a hA
       refine seq_do hA rfl rfl rfl (does_assign rfl) ?_
       intro a hA
       refine seq_end ?_
       refine hK53 _ _ ?_
       refine wp_region_lit ?_
       refine seq_do hA rfl rfl rfl (does_move rfl) ?_
       intro a hA
       refine seq_do (v := .int .i64 (((i2 + 1 : Nat) : Int))) hA rfl rfl rfl (does_bin rfl rfl (ar_add ((in_i64 (by omega) (by omega)).trans (by omega)))) ?_
       intro a hA
       refine seq_do hA rfl rfl rfl (does_assign rfl) ?_
       intro a hA
       refine seq_end ?_
       replace hM : Mg w w61 (.row 21 1 (.slice sn q cn) q ((runeV (numsL hi2 l 0 q))) :: .row 78 3 (v60) ((acc ++ [(((0 + 2 * i2 : Nat) : Int), ((n : Nat) : Int))]).length) ((unitV (acc ++ [(((0 + 2 * i2 : Nat) : Int), ((n : Nat) : Int))]))) :: []) := by
         have h9 := hM.sub (.cons _ (.cons_cons _ (.cons_cons _ (.refl _))))
         rw [unitV_snoc_good (by omega), List.length_append]
         exact h9
       refine hK48 _ _ _ (by omega) ⟨i2 + 1, acc ++ [(((0 + 2 * i2 : Nat) : Int), ((n : Nat) : Int))], v60, rfl, ⟨by rw [← hrun, pair_one (g := hi2) (l := l) (p := 0 + 2 * i2) (by omega) hn (by omega), show 0 + 2 * (i2 + 1) = 0 + 2 * i2 + 2 from by omega, List.append_assoc]; rfl, by omega, by rw [List.length_append]; simp only [List.length_cons, List.length_nil]; omega⟩, hA.keep _ ⟨rfl, rfl, rfl, rfl, rfl, rfl, rfl, rfl, rfl, rfl, rfl, rfl, rfl, rfl, rfl, rfl, rfl, rfl, rfl, rfl, rfl, rfl, rfl, rfl, rfl, rfl, rfl, rfl, rfl, rfl, rfl, rfl, trivial⟩, hM⟩
     · have hb57' := of_decide_eq_false hb57
       refine seq_do (v := .bool false) hA rfl rfl rfl (does_bin rfl rfl (fun w => (bin_lss w).trans (by rw [hb57]))) ?_
       intro a hA
       refine seq_do hA rfl rfl rfl (does_move rfl) ?_
       intro a hA
       refine seq_do hA rfl rfl rfl (does_move rfl) ?_
       intro a hA
       rcases Bool.eq_false_or_eq_true (decide (57343 < ((n : Nat) : Int))) with hb62 | hb62
       · have hb62' := of_decide_eq_true hb62
         refine seq_do (v := .bool true) hA rfl rfl rfl (does_bin rfl rfl (fun w => (bin_gtr w).trans (by rw [hb62]))) ?_
         intro a hA
         refine seq_do (v := .bool true) hA rfl rfl rfl (does_pick rfl rfl rfl rfl) ?_
         intro a hA
         refine seq_do hA rfl rfl rfl (does_assign rfl) ?_
         intro a hA
         refine seq_end ?_
         refine hK56 _ _ ?_
         refine wp_cond_true (hA.ev rfl) ?_
         refine wp_region_lit ?_
         refine seq_do hA rfl rfl rfl (does_move rfl) ?_
         intro a hA
         refine seq_do hA rfl rfl rfl (does_move rfl) ?_
         intro a hA
         refine seq_do hA rfl rfl rfl (does_move rfl) ?_
         intro a hA
         refine seq_do (v := .agg #[.int .i32 (((n : Nat) : Int)), .bool false, .int .i64 (((0 + 2 * i2 : Nat) : Int))]) hA rfl rfl rfl (does_build rfl (fun w => by kernel_rfl)) ?_
         intro a hA
         refine s_litE (e := 78) (sz := 3) (m := 1) (vs := [.int .i32 (((n : Nat) : Int)), .bool false, .int .i64 (((0 + 2 * i2 : Nat) : Int))]) hA hM rfl rfl rfl (does_buildSlice rfl (by kernel_rfl)) rfl rfl (.inl (by decide)) ?_
         intro g63 w64 hM a hA
         refine s_appendE (e := 78) (sz := 3) (k := 2) (q := acc.length) (m := 1) (xs := (unitV acc)) (news := [.int .i32 (((n : Nat) : Int)), .bool false, .int .i64 (((0 + 2 * i2 : Nat) : Int))]) (L' := fun v65 => (.row 78 3 (.slice (some ⟨g63, 0, none⟩) 1 1) 1 ([.int .i32 (((n : Nat) : Int)), .bool false, .int .i64 (((0 + 2 * i2 : Nat) : Int))]) :: .row 21 1 (.slice sn q cn) q ((runeV (numsL hi2 l 0 q))) :: .row 78 3 (v65) (acc.length + 1) ((unitV acc) ++ [.int .i32 (((n : Nat) : Int)), .bool false, .int .i64 (((0 + 2 * i2 : Nat) : Int))]) :: [])) hA rfl rfl rfl (m_appendE (z := .agg #[.int .i32 0, .bool false, .int .i64 0]) (sz := 3) (by_ := 16) Try.underlying75 (by kernel_rfl) rfl rfl rfl hM 2 rfl rfl 0 rfl rfl rfl rfl (by omega)) (fun _ => rfl) ?_
         intro v65 w66 hM a hA
         refine seq_do hA rfl rfl rfl (does_assign rfl) ?_
         intro a hA
         refine seq_end ?_
         refine hK53 _ _ ?_
         refine wp_region_lit ?_
         refine seq_do hA rfl rfl rfl (does_move rfl) ?_
         intro a hA
         refine seq_do (v := .int .i64 (((i2 + 1 : Nat) : Int))) hA rfl rfl rfl (does_bin rfl rfl (ar_add ((in_i64 (by omega) (by omega)).trans (by omega)))) ?_
         intro a hA
         refine seq_do hA rfl rfl rfl (does_assign rfl) ?_
         intro a hA
         refine seq_end ?_
         replace hM : Mg w w66 (.row 21 1 (.slice sn q cn) q ((runeV (numsL hi2 l 0 q))) :: .row 78 3 (v65) ((acc ++ [(((0 + 2 * i2 : Nat) : Int), ((n : Nat) : Int))]).length) ((unitV (acc ++ [(((0 + 2 * i2 : Nat) : Int), ((n : Nat) : Int))]))) :: []) := by
           have h9 := hM.sub (.cons _ (.cons_cons _ (.cons_cons _ (.refl _))))
           rw [unitV_snoc_good (by omega), List.length_append]
           exact h9
         refine hK48 _ _ _ (by omega) ⟨i2 + 1, acc ++ [(((0 + 2 * i2 : Nat) : Int), ((n : Nat) : Int))], v65, rfl, ⟨by rw [← hrun, pair_one (g := hi2) (l := l) (p := 0 + 2 * i2) (by omega) hn (by omega), show 0 + 2 * (i2 + 1) = 0 + 2 * i2 + 2 from by omega, List.append_assoc]; rfl, by omega, by rw [List.length_append]; simp only [List.length_cons, List.length_nil]; omega⟩, hA.keep _ ⟨rfl, rfl, rfl, rfl, rfl, rfl, rfl, rfl, rfl, rfl, rfl, rfl, rfl, rfl, rfl, rfl, rfl, rfl, rfl, rfl, rfl, rfl, rfl, rfl, rfl, rfl, rfl, rfl, rfl, rfl, rfl, rfl, trivial⟩, hM⟩
       · have hb62' := of_decide_eq_false hb62
         refine seq_do (v := .bool false) hA rfl rfl rfl (does_bin rfl rfl (fun w => (bin_gtr w).trans (by rw [hb62]))) ?_
         intro a hA
         refine seq_do (v := .bool false) hA rfl rfl rfl (does_pick rfl rfl rfl rfl) ?_
         intro a hA
         refine seq_do hA rfl rfl rfl (does_assign rfl) ?_
         intro a hA
         refine seq_end ?_
         refine hK56 _ _ ?_
         refine wp_cond_false (hA.ev rfl) ?_
         refine wp_seq_k (fun K67 hK67 => ?_)
         refine wp_region_lit ?_
         refine seq_do hA rfl rfl rfl (does_move rfl) ?_
         intro a hA
         rcases Bool.eq_false_or_eq_true (decide (((n : Nat) : Int) ≤ 56319)) with hb68 | hb68
         · have hb68' := of_decide_eq_true hb68
           refine seq_do (v := .bool true) hA rfl rfl rfl (does_bin rfl rfl (fun w => (bin_leq w).trans (by rw [hb68]))) ?_
           intro a hA
           refine seq_do hA rfl rfl rfl (does_move rfl) ?_
           intro a hA
           refine seq_do hA rfl rfl rfl (does_move rfl) ?_
           intro a hA
           refine seq_do (v := .int .i64 (((i2 + 1 : Nat) : Int))) hA rfl rfl rfl (does_bin rfl rfl (ar_add ((in_i64 (by omega) (by omega)).trans (by omega)))) ?_
           intro a hA
           refine seq_do hA rfl rfl rfl (does_move rfl) ?_
           intro a hA
           refine seq_do (v := .int .i64 (((q : Nat) : Int))) hA rfl rfl rfl (does_len Try.underlying74 rfl) ?_
           intro a hA
           rcases Bool.eq_false_or_eq_true (decide (((i2 + 1 : Nat) : Int) < ((q : Nat) : Int))) with hb69 | hb69
           · have hb69' := of_decide_eq_true hb69
             refine seq_do (v := .bool true) hA rfl rfl rfl (does_bin rfl rfl (fun w => (bin_lss w).trans (by rw [hb69]))) ?_
             intro a hA
             refine seq_do (v := .bool true) hA rfl rfl rfl (does_pick rfl rfl rfl rfl) ?_
             intro a hA
             refine seq_do hA rfl rfl rfl (does_move rfl) ?_
             intro a hA
             refine seq_do hA rfl rfl rfl (does_move rfl) ?_
             intro a hA
             refine seq_do hA rfl rfl rfl (does_move rfl) ?_
             intro a hA
             refine seq_do (v := .int .i64 (((i2 + 1 : Nat) : Int))) hA rfl rfl rfl (does_bin rfl rfl (ar_add ((in_i64 (by omega) (by omega)).trans (by omega)))) ?_
             intro a hA
             refine seq_do (v := .pointer (some ⟨gn, (i2 + 1) * 1, none⟩)) hA rfl rfl rfl (does_indexX Try.underlying74 (by kernel_rfl) rfl rfl rfl hgn (show i2 + 1 < q by omega)) ?_
             intro a hA
             obtain ⟨m9, hm9⟩ : ∃ m9 : Nat, hi2 (l.getD (0 + 2 * (i2 + 1)) 0).toNat (l.getD (0 + 2 * (i2 + 1) + 1) 0).toNat = m9 := ⟨_, rfl⟩
             have hltm9 : m9 < 65536 := hm9 ▸ hi2_lt _ _
             refine seq_do (v := .int .i32 (((m9 : Nat) : Int))) hA rfl rfl rfl (m_loadX hM 0 rfl hgn ((nums_at (g := hi2) (l := l) (f := 0) (n := q) (j := i2 + 1) (by omega)).trans (by rw [hm9])) CpD_is1_21 rfl) ?_
             intro a hA
             rcases Bool.eq_false_or_eq_true (decide (56320 ≤ ((m9 : Nat) : Int))) with hb70 | hb70
             · have hb70' := of_decide_eq_true hb70
               refine seq_do (v := .bool true) hA rfl rfl rfl (does_bin rfl rfl (fun w => (bin_geq w).trans (by rw [hb70]))) ?_
               intro a hA
               refine seq_do (v := .bool true) hA rfl rfl rfl (does_pick rfl rfl rfl rfl) ?_
               intro a hA
               refine seq_do hA rfl rfl rfl (does_move rfl) ?_
               intro a hA
               refine seq_do hA rfl rfl rfl (does_move rfl) ?_
               intro a hA
               refine seq_do hA rfl rfl rfl (does_move rfl) ?_
               intro a hA
               refine seq_do (v := .int .i64 (((i2 + 1 : Nat) : Int))) hA rfl rfl rfl (does_bin rfl rfl (ar_add ((in_i64 (by omega) (by omega)).trans (by omega)))) ?_
               intro a hA
               refine seq_do (v := .pointer (some ⟨gn, (i2 + 1) * 1, none⟩)) hA rfl rfl rfl (does_indexX Try.underlying74 (by kernel_rfl) rfl rfl rfl hgn (show i2 + 1 < q by omega)) ?_
               intro a hA
               refine seq_do (v := .int .i32 (((m9 : Nat) : Int))) hA rfl rfl rfl (m_loadX hM 0 rfl hgn ((nums_at (g := hi2) (l := l) (f := 0) (n := q) (j := i2 + 1) (by omega)).trans (by rw [hm9])) CpD_is1_21 rfl) ?_
               intro a hA
               rcases Bool.eq_false_or_eq_true (decide (((m9 : Nat) : Int) ≤ 57343)) with hb71 | hb71
               · have hb71' := of_decide_eq_true hb71
                 refine seq_do (v := .bool true) hA rfl rfl rfl (does_bin rfl rfl (fun w => (bin_leq w).trans (by rw [hb71]))) ?_
                 intro a hA
                 refine seq_do (v := .bool true) hA rfl rfl rfl (does_pick rfl rfl rfl rfl) ?_
                 intro a hA
                 refine seq_do hA rfl rfl rfl (does_assign rfl) ?_
                 intro a hA
                 refine seq_end ?_
                 refine hK67 _ _ ?_
                 refine wp_cond_true (hA.ev rfl) ?_
                 refine wp_seq_k (fun K72 hK72 => ?_)
                 refine wp_region_lit ?_
                 refine seq_do hA rfl rfl rfl (does_move rfl) ?_
                 intro a hA
                 refine seq_do hA rfl rfl rfl (does_move rfl) ?_
                 intro a hA
                 refine seq_do (v := .int .i32 (((n : Nat) : Int) - 55296)) hA rfl rfl rfl (does_bin rfl rfl (ar_sub (in_i32 (by omega) (by omega)))) ?_
                 intro a hA
                 refine seq_do (v := .int .i32 ((((n : Nat) : Int) - 55296) * 1024)) hA rfl rfl rfl (does_bin rfl rfl (ar_mul (in_i32 (by omega) (by omega)))) ?_
                 intro a hA
                 refine seq_do (v := .int .i32 (65536 + ((((n : Nat) : Int) - 55296) * 1024))) hA rfl rfl rfl (does_bin rfl rfl (ar_add (in_i32 (by omega) (by omega)))) ?_
                 intro a hA
                 refine seq_do hA rfl rfl rfl (does_move rfl) ?_
                 intro a hA
                 refine seq_do hA rfl rfl rfl (does_move rfl) ?_
                 intro a hA
                 refine seq_do (v := .int .i64 (((i2 + 1 : Nat) : Int))) hA rfl rfl rfl (does_bin rfl rfl (ar_add ((in_i64 (by omega) (by omega)).trans (by omega)))) ?_
                 intro a hA
                 refine seq_do (v := .pointer (some ⟨gn, (i2 + 1) * 1, none⟩)) hA rfl rfl rfl (does_indexX Try.underlying74 (by kernel_rfl) rfl rfl rfl hgn (show i2 + 1 < q by omega)) ?_
                 intro a hA
                 refine seq_do (v := .int .i32 (((m9 : Nat) : Int))) hA rfl rfl rfl (m_loadX hM 0 rfl hgn ((nums_at (g := hi2) (l := l) (f := 0) (n := q) (j := i2 + 1) (by omega)).trans (by rw [hm9])) CpD_is1_21 rfl) ?_
                 intro a hA
                 refine seq_do (v := .int .i32 (65536 + ((((n : Nat) : Int) - 55296) * 1024) + (((m9 : Nat) : Int)))) hA rfl rfl rfl (does_bin rfl rfl (ar_add (in_i32 (by omega) (by omega)))) ?_
                 intro a hA
                 refine seq_do (v := .int .i32 (65536 + ((((n : Nat) : Int) - 55296) * 1024) + (((m9 : Nat) : Int)) - 56320)) hA rfl rfl rfl (does_bin rfl rfl (ar_sub (in_i32 (by omega) (by omega)))) ?_
                 intro a hA
                 refine seq_do hA rfl rfl rfl (does_move rfl) ?_
                 intro a hA
                 refine seq_do (v := .agg #[.int .i32 (65536 + ((((n : Nat) : Int) - 55296) * 1024) + (((m9 : Nat) : Int)) - 56320), .bool false, .int .i64 (((0 + 2 * i2 : Nat) : Int))]) hA rfl rfl rfl (does_build rfl (fun w => by kernel_rfl)) ?_
                 intro a hA
                 refine s_litE (e := 78) (sz := 3) (m := 1) (vs := [.int .i32 (65536 + ((((n : Nat) : Int) - 55296) * 1024) + (((m9 : Nat) : Int)) - 56320), .bool false, .int .i64 (((0 + 2 * i2 : Nat) : Int))]) hA hM rfl rfl rfl (does_buildSlice rfl (by kernel_rfl)) rfl rfl (.inl (by decide)) ?_
                 intro g73 w74 hM a hA
                 refine s_appendE (e := 78) (sz := 3) (k := 2) (q := acc.length) (m := 1) (xs := (unitV acc)) (news := [.int .i32 (65536 + ((((n : Nat) : Int) - 55296) * 1024) + (((m9 : Nat) : Int)) - 56320), .bool false, .int .i64 (((0 + 2 * i2 : Nat) : Int))]) (L' := fun v75 => (.row 78 3 (.slice (some ⟨g73, 0, none⟩) 1 1) 1 ([.int .i32 (65536 + ((((n : Nat) : Int) - 55296) * 1024) + (((m9 : Nat) : Int)) - 56320), .bool false, .int .i64 (((0 + 2 * i2 : Nat) : Int))]) :: .row 21 1 (.slice sn q cn) q ((runeV (numsL hi2 l 0 q))) :: .row 78 3 (v75) (acc.length + 1) ((unitV acc) ++ [.int .i32 (65536 + ((((n : Nat) : Int) - 55296) * 1024) + (((m9 : Nat) : Int)) - 56320), .bool false, .int .i64 (((0 + 2 * i2 : Nat) : Int))]) :: [])) hA rfl rfl rfl (m_appendE (z := .agg #[.int .i32 0, .bool false, .int .i64 0]) (sz := 3) (by_ := 16) Try.underlying75 (by kernel_rfl) rfl rfl rfl hM 2 rfl rfl 0 rfl rfl rfl rfl (by omega)) (fun _ => rfl) ?_
                 intro v75 w76 hM a hA
                 refine seq_do hA rfl rfl rfl (does_assign rfl) ?_
                 intro a hA
                 refine seq_end ?_
                 refine hK72 _ _ ?_
                 refine wp_region_lit ?_
                 refine seq_do hA rfl rfl rfl (does_move rfl) ?_
                 intro a hA
                 refine seq_do (v := .int .i64 (((i2 + 1 : Nat) : Int))) hA rfl rfl rfl (does_bin rfl rfl (ar_add ((in_i64 (by omega) (by omega)).trans (by omega)))) ?_
                 intro a hA
                 refine seq_do hA rfl rfl rfl (does_assign rfl) ?_
                 intro a hA
                 refine seq_end ?_
                 refine hK53 _ _ ?_
                 refine wp_region_lit ?_
                 refine seq_do hA rfl rfl rfl (does_move rfl) ?_
                 intro a hA
                 refine seq_do (v := .int .i64 (((i2 + 1 + 1 : Nat) : Int))) hA rfl rfl rfl (does_bin rfl rfl (ar_add ((in_i64 (by omega) (by omega)).trans (by omega)))) ?_
                 intro a hA
                 refine seq_do hA rfl rfl rfl (does_assign rfl) ?_
                 intro a hA
                 refine seq_end ?_
                 replace hM : Mg w w76 (.row 21 1 (.slice sn q cn) q ((runeV (numsL hi2 l 0 q))) :: .row 78 3 (v75) ((acc ++ [(((0 + 2 * i2 : Nat) : Int), 65536 + ((((n : Nat) : Int) - 55296) * 1024) + (((m9 : Nat) : Int)) - 56320)]).length) ((unitV (acc ++ [(((0 + 2 * i2 : Nat) : Int), 65536 + ((((n : Nat) : Int) - 55296) * 1024) + (((m9 : Nat) : Int)) - 56320)]))) :: []) := by
                   have h9 := hM.sub (.cons _ (.cons_cons _ (.cons_cons _ (.refl _))))
                   rw [unitV_snoc_good (by omega), List.length_append]
                   exact h9
                 refine hK48 _ _ _ (by omega) ⟨i2 + 1 + 1, acc ++ [(((0 + 2 * i2 : Nat) : Int), 65536 + ((((n : Nat) : Int) - 55296) * 1024) + (((m9 : Nat) : Int)) - 56320)], v75, rfl, ⟨by rw [← hrun, pair_two (g := hi2) (l := l) (p := 0 + 2 * i2) (by omega) hn (show hi2 (l.getD (0 + 2 * i2 + 2) 0).toNat (l.getD (0 + 2 * i2 + 3) 0).toNat = m9 from hm9) (by omega) (by omega) (by omega) (by omega), show 0 + 2 * (i2 + 1 + 1) = 0 + 2 * i2 + 4 from by omega, List.append_assoc]; rfl, by omega, by rw [List.length_append]; simp only [List.length_cons, List.length_nil]; omega⟩, hA.keep _ ⟨rfl, rfl, rfl, rfl, rfl, rfl, rfl, rfl, rfl, rfl, rfl, rfl, rfl, rfl, rfl, rfl, rfl, rfl, rfl, rfl, rfl, rfl, rfl, rfl, rfl, rfl, rfl, rfl, rfl, rfl, rfl, rfl, trivial⟩, hM⟩
               · have hb71' := of_decide_eq_false hb71
                 refine seq_do (v := .bool false) hA rfl rfl rfl (does_bin rfl rfl (fun w => (bin_leq w).trans (by rw [hb71]))) ?_
                 intro a hA
                 refine seq_do (v := .bool false) hA rfl rfl rfl (does_pick rfl rfl rfl rfl) ?_
                 intro a hA
                 refine seq_do hA rfl rfl rfl (does_assign rfl) ?_
                 intro a hA
                 refine seq_end ?_
                 refine hK67 _ _ ?_
                 refine wp_cond_false (hA.ev rfl) ?_
                 refine wp_region_lit ?_
                 refine seq_do hA rfl rfl rfl (does_move rfl) ?_
                 intro a hA
                 refine seq_do hA rfl rfl rfl (does_move rfl) ?_
                 intro a hA
                 refine seq_do (v := .agg #[.int .i32 0, .bool true, .int .i64 (((0 + 2 * i2 : Nat) : Int))]) hA rfl rfl rfl (does_build rfl (fun w => by kernel_rfl)) ?_
                 intro a hA
                 refine s_litE (e := 78) (sz := 3) (m := 1) (vs := [.int .i32 0, .bool true, .int .i64 (((0 + 2 * i2 : Nat) : Int))]) hA hM rfl rfl rfl (does_buildSlice rfl (by kernel_rfl)) rfl rfl (.inl (by decide)) ?_
                 intro g77 w78 hM a hA
                 refine s_appendE (e := 78) (sz := 3) (k := 2) (q := acc.length) (m := 1) (xs := (unitV acc)) (news := [.int .i32 0, .bool true, .int .i64 (((0 + 2 * i2 : Nat) : Int))]) (L' := fun v79 => (.row 78 3 (.slice (some ⟨g77, 0, none⟩) 1 1) 1 ([.int .i32 0, .bool true, .int .i64 (((0 + 2 * i2 : Nat) : Int))]) :: .row 21 1 (.slice sn q cn) q ((runeV (numsL hi2 l 0 q))) :: .row 78 3 (v79) (acc.length + 1) ((unitV acc) ++ [.int .i32 0, .bool true, .int .i64 (((0 + 2 * i2 : Nat) : Int))]) :: [])) hA rfl rfl rfl (m_appendE (z := .agg #[.int .i32 0, .bool false, .int .i64 0]) (sz := 3) (by_ := 16) Try.underlying75 (by kernel_rfl) rfl rfl rfl hM 2 rfl rfl 0 rfl rfl rfl rfl (by omega)) (fun _ => rfl) ?_
                 intro v79 w80 hM a hA
                 refine seq_do hA rfl rfl rfl (does_assign rfl) ?_
                 intro a hA
                 refine seq_end ?_
                 refine hK53 _ _ ?_
                 refine wp_region_lit ?_
                 refine seq_do hA rfl rfl rfl (does_move rfl) ?_
                 intro a hA
                 refine seq_do (v := .int .i64 (((i2 + 1 : Nat) : Int))) hA rfl rfl rfl (does_bin rfl rfl (ar_add ((in_i64 (by omega) (by omega)).trans (by omega)))) ?_
                 intro a hA
                 refine seq_do hA rfl rfl rfl (does_assign rfl) ?_
                 intro a hA
                 refine seq_end ?_
                 replace hM : Mg w w80 (.row 21 1 (.slice sn q cn) q ((runeV (numsL hi2 l 0 q))) :: .row 78 3 (v79) ((acc ++ [(((0 + 2 * i2 : Nat) : Int), -1)]).length) ((unitV (acc ++ [(((0 + 2 * i2 : Nat) : Int), -1)]))) :: []) := by
                   have h9 := hM.sub (.cons _ (.cons_cons _ (.cons_cons _ (.refl _))))
                   rw [unitV_snoc_bad, List.length_append]
                   exact h9
                 refine hK48 _ _ _ (by omega) ⟨i2 + 1, acc ++ [(((0 + 2 * i2 : Nat) : Int), -1)], v79, rfl, ⟨by rw [← hrun, pair_bad (g := hi2) (l := l) (p := 0 + 2 * i2) (by omega) hn (by omega) (by omega) (fun _ _ => by rw [show hi2 (l.getD (0 + 2 * i2 + 2) 0).toNat (l.getD (0 + 2 * i2 + 3) 0).toNat = m9 from hm9]; omega), show 0 + 2 * (i2 + 1) = 0 + 2 * i2 + 2 from by omega, List.append_assoc]; rfl, by omega, by rw [List.length_append]; simp only [List.length_cons, List.length_nil]; omega⟩, hA.keep _ ⟨rfl, rfl, rfl, rfl, rfl, rfl, rfl, rfl, rfl, rfl, rfl, rfl, rfl, rfl, rfl, rfl, rfl, rfl, rfl, rfl, rfl, rfl, rfl, rfl, rfl, rfl, rfl, rfl, rfl, rfl, rfl, rfl, trivial⟩, hM⟩
             · have hb70' := of_decide_eq_false hb70
               refine seq_do (v := .bool false) hA rfl rfl rfl (does_bin rfl rfl (fun w => (bin_geq w).trans (by rw [hb70]))) ?_
               intro a hA
               refine seq_do (v := .bool false) hA rfl rfl rfl (does_pick rfl rfl rfl rfl) ?_
               intro a hA
               refine seq_do hA rfl rfl rfl (does_move rfl) ?_
               intro a hA
               refine seq_skip hA rfl rfl rfl ?_
               intro a hA
               refine seq_skip hA rfl rfl rfl ?_
               intro a hA
               refine seq_skip hA rfl rfl rfl ?_
               intro a hA
               refine seq_skip hA rfl rfl rfl ?_
               intro a hA
               refine seq_skip hA rfl rfl rfl ?_
               intro a hA
               refine seq_skip hA rfl rfl rfl ?_
               intro a hA
               refine seq_do (v := .bool false) hA rfl rfl rfl (does_pick rfl rfl rfl rfl) ?_
               intro a hA
               refine seq_do hA rfl rfl rfl (does_assign rfl) ?_
               intro a hA
               refine seq_end ?_
               refine hK67 _ _ ?_
               refine wp_cond_false (hA.ev rfl) ?_
               refine wp_region_lit ?_
               refine seq_do hA rfl rfl rfl (does_move rfl) ?_
               intro a hA
               refine seq_do hA rfl rfl rfl (does_move rfl) ?_
               intro a hA
               refine seq_do (v := .agg #[.int .i32 0, .bool true, .int .i64 (((0 + 2 * i2 : Nat) : Int))]) hA rfl rfl rfl (does_build rfl (fun w => by kernel_rfl)) ?_
               intro a hA
               refine s_litE (e := 78) (sz := 3) (m := 1) (vs := [.int .i32 0, .bool true, .int .i64 (((0 + 2 * i2 : Nat) : Int))]) hA hM rfl rfl rfl (does_buildSlice rfl (by kernel_rfl)) rfl rfl (.inl (by decide)) ?_
               intro g81 w82 hM a hA
               refine s_appendE (e := 78) (sz := 3) (k := 2) (q := acc.length) (m := 1) (xs := (unitV acc)) (news := [.int .i32 0, .bool true, .int .i64 (((0 + 2 * i2 : Nat) : Int))]) (L' := fun v83 => (.row 78 3 (.slice (some ⟨g81, 0, none⟩) 1 1) 1 ([.int .i32 0, .bool true, .int .i64 (((0 + 2 * i2 : Nat) : Int))]) :: .row 21 1 (.slice sn q cn) q ((runeV (numsL hi2 l 0 q))) :: .row 78 3 (v83) (acc.length + 1) ((unitV acc) ++ [.int .i32 0, .bool true, .int .i64 (((0 + 2 * i2 : Nat) : Int))]) :: [])) hA rfl rfl rfl (m_appendE (z := .agg #[.int .i32 0, .bool false, .int .i64 0]) (sz := 3) (by_ := 16) Try.underlying75 (by kernel_rfl) rfl rfl rfl hM 2 rfl rfl 0 rfl rfl rfl rfl (by omega)) (fun _ => rfl) ?_
               intro v83 w84 hM a hA
               refine seq_do hA rfl rfl rfl (does_assign rfl) ?_
               intro a hA
               refine seq_end ?_
               refine hK53 _ _ ?_
               refine wp_region_lit ?_
               refine seq_do hA rfl rfl rfl (does_move rfl) ?_
               intro a hA
               refine seq_do (v := .int .i64 (((i2 + 1 : Nat) : Int))) hA rfl rfl rfl (does_bin rfl rfl (ar_add ((in_i64 (by omega) (by omega)).trans (by omega)))) ?_
               intro a hA
               refine seq_do hA rfl rfl rfl (does_assign rfl) ?_
               intro a hA
               refine seq_end ?_
               replace hM : Mg w w84 (.row 21 1 (.slice sn q cn) q ((runeV (numsL hi2 l 0 q))) :: .row 78 3 (v83) ((acc ++ [(((0 + 2 * i2 : Nat) : Int), -1)]).length) ((unitV (acc ++ [(((0 + 2 * i2 : Nat) : Int), -1)]))) :: []) := by
                 have h9 := hM.sub (.cons _ (.cons_cons _ (.cons_cons _ (.refl _))))
                 rw [unitV_snoc_bad, List.length_append]
                 exact h9
               refine hK48 _ _ _ (by omega) ⟨i2 + 1, acc ++ [(((0 + 2 * i2 : Nat) : Int), -1)], v83, rfl, ⟨by rw [← hrun, pair_bad (g := hi2) (l := l) (p := 0 + 2 * i2) (by omega) hn (by omega) (by omega) (fun _ _ => by rw [show hi2 (l.getD (0 + 2 * i2 + 2) 0).toNat (l.getD (0 + 2 * i2 + 3) 0).toNat = m9 from hm9]; omega), show 0 + 2 * (i2 + 1) = 0 + 2 * i2 + 2 from by omega, List.append_assoc]; rfl, by omega, by rw [List.length_append]; simp only [List.length_cons, List.length_nil]; omega⟩, hA.keep _ ⟨rfl, rfl, rfl, rfl, rfl, rfl, rfl, rfl, rfl, rfl, rfl, rfl, rfl, rfl, rfl, rfl, rfl, rfl, rfl, rfl, rfl, rfl, rfl, rfl, rfl, rfl, rfl, rfl, rfl, rfl, rfl, rfl, trivial⟩, hM⟩
           · have hb69' := of_decide_eq_false hb69
             refine seq_do (v := .bool false) hA rfl rfl rfl (does_bin rfl rfl (fun w => (bin_lss w).trans (by rw [hb69]))) ?_
             intro a hA
             refine seq_do (v := .bool false) hA rfl rfl rfl (does_pick rfl rfl rfl rfl) ?_
             intro a hA
             refine seq_do hA rfl rfl rfl (does_move rfl) ?_
             intro a hA
             refine seq_skip hA rfl rfl rfl ?_
             intro a hA
             refine seq_skip hA rfl rfl rfl ?_
             intro a hA
             refine seq_skip hA rfl rfl rfl ?_
             intro a hA
             refine seq_skip hA rfl rfl rfl ?_
             intro a hA
             refine seq_skip hA rfl rfl rfl ?_
             intro a hA
             refine seq_skip hA rfl rfl rfl ?_
             intro a hA
             refine seq_do (v := .bool false) hA rfl rfl rfl (does_pick rfl rfl rfl rfl) ?_
             intro a hA
             refine seq_do hA rfl rfl rfl (does_move rfl) ?_
             intro a hA
             refine seq_skip hA rfl rfl rfl ?_
             intro a hA
             refine seq_skip hA rfl rfl rfl ?_
             intro a hA
             refine seq_skip hA rfl rfl rfl ?_
             intro a hA
             refine seq_skip hA rfl rfl rfl ?_
             intro a hA
             refine seq_skip hA rfl rfl rfl ?_
             intro a hA
             refine seq_skip hA rfl rfl rfl ?_
             intro a hA
             refine seq_do (v := .bool false) hA rfl rfl rfl (does_pick rfl rfl rfl rfl) ?_
             intro a hA
             refine seq_do hA rfl rfl rfl (does_assign rfl) ?_
             intro a hA
             refine seq_end ?_
             refine hK67 _ _ ?_
             refine wp_cond_false (hA.ev rfl) ?_
             refine wp_region_lit ?_
             refine seq_do hA rfl rfl rfl (does_move rfl) ?_
             intro a hA
             refine seq_do hA rfl rfl rfl (does_move rfl) ?_
             intro a hA
             refine seq_do (v := .agg #[.int .i32 0, .bool true, .int .i64 (((0 + 2 * i2 : Nat) : Int))]) hA rfl rfl rfl (does_build rfl (fun w => by kernel_rfl)) ?_
             intro a hA
             refine s_litE (e := 78) (sz := 3) (m := 1) (vs := [.int .i32 0, .bool true, .int .i64 (((0 + 2 * i2 : Nat) : Int))]) hA hM rfl rfl rfl (does_buildSlice rfl (by kernel_rfl)) rfl rfl (.inl (by decide)) ?_
             intro g85 w86 hM a hA
             refine s_appendE (e := 78) (sz := 3) (k := 2) (q := acc.length) (m := 1) (xs := (unitV acc)) (news := [.int .i32 0, .bool true, .int .i64 (((0 + 2 * i2 : Nat) : Int))]) (L' := fun v87 => (.row 78 3 (.slice (some ⟨g85, 0, none⟩) 1 1) 1 ([.int .i32 0, .bool true, .int .i64 (((0 + 2 * i2 : Nat) : Int))]) :: .row 21 1 (.slice sn q cn) q ((runeV (numsL hi2 l 0 q))) :: .row 78 3 (v87) (acc.length + 1) ((unitV acc) ++ [.int .i32 0, .bool true, .int .i64 (((0 + 2 * i2 : Nat) : Int))]) :: [])) hA rfl rfl rfl (m_appendE (z := .agg #[.int .i32 0, .bool false, .int .i64 0]) (sz := 3) (by_ := 16) Try.underlying75 (by kernel_rfl) rfl rfl rfl hM 2 rfl rfl 0 rfl rfl rfl rfl (by omega)) (fun _ => rfl) ?_
             intro v87 w88 hM a hA
             refine seq_do hA rfl rfl rfl (does_assign rfl) ?_
             intro a hA
             refine seq_end ?_
             refine hK53 _ _ ?_
             refine wp_region_lit ?_
             refine seq_do hA rfl rfl rfl (does_move rfl) ?_
             intro a hA
             refine seq_do (v := .int .i64 (((i2 + 1 : Nat) : Int))) hA rfl rfl rfl (does_bin rfl rfl (ar_add ((in_i64 (by omega) (by omega)).trans (by omega)))) ?_
             intro a hA
             refine seq_do hA rfl rfl rfl (does_assign rfl) ?_
             intro a hA
             refine seq_end ?_
             replace hM : Mg w w88 (.row 21 1 (.slice sn q cn) q ((runeV (numsL hi2 l 0 q))) :: .row 78 3 (v87) ((acc ++ [(((0 + 2 * i2 : Nat) : Int), -1)]).length) ((unitV (acc ++ [(((0 + 2 * i2 : Nat) : Int), -1)]))) :: []) := by
               have h9 := hM.sub (.cons _ (.cons_cons _ (.cons_cons _ (.refl _))))
               rw [unitV_snoc_bad, List.length_append]
               exact h9
             refine hK48 _ _ _ (by omega) ⟨i2 + 1, acc ++ [(((0 + 2 * i2 : Nat) : Int), -1)], v87, rfl, ⟨by rw [← hrun, pair_bad (g := hi2) (l := l) (p := 0 + 2 * i2) (by omega) hn (by omega) (by omega) (fun _ _ => by exfalso; omega), show 0 + 2 * (i2 + 1) = 0 + 2 * i2 + 2 from by omega, List.append_assoc]; rfl, by omega, by rw [List.length_append]; simp only [List.length_cons, List.length_nil]; omega⟩, hA.keep _ ⟨rfl, rfl, rfl, rfl, rfl, rfl, rfl, rfl, rfl, rfl, rfl, rfl, rfl, rfl, rfl, rfl, rfl, rfl, rfl, rfl, rfl, rfl, rfl, rfl, rfl, rfl, rfl, rfl, rfl, rfl, rfl, rfl, trivial⟩, hM⟩
         · have hb68' := of_decide_eq_false hb68
           refine seq_do (v := .bool false) hA rfl rfl rfl (does_bin rfl rfl (fun w => (bin_leq w).trans (by rw [hb68]))) ?_
           intro a hA
           refine seq_do hA rfl rfl rfl (does_move rfl) ?_
           intro a hA
           refine seq_skip hA rfl rfl rfl ?_
           intro a hA
           refine seq_skip hA rfl rfl rfl ?_
           intro a hA
           refine seq_skip hA rfl rfl rfl ?_
           intro a hA
           refine seq_skip hA rfl rfl rfl ?_
           intro a hA
           refine seq_skip hA rfl rfl rfl ?_
           intro a hA
           refine seq_do (v := .bool false) hA rfl rfl rfl (does_pick rfl rfl rfl rfl) ?_
           intro a hA
           refine seq_do hA rfl rfl rfl (does_move rfl) ?_
           intro a hA
           refine seq_skip hA rfl rfl rfl ?_
           intro a hA
           refine seq_skip hA rfl rfl rfl ?_
           intro a hA
           refine seq_skip hA rfl rfl rfl ?_
           intro a hA
           refine seq_skip hA rfl rfl rfl ?_
           intro a hA
           refine seq_skip hA rfl rfl rfl ?_
           intro a hA
           refine seq_skip hA rfl rfl rfl ?_
           intro a hA
           refine seq_do (v := .bool false) hA rfl rfl rfl (does_pick rfl rfl rfl rfl) ?_
           intro a hA
           refine seq_do hA rfl rfl rfl (does_move rfl) ?_
           intro a hA
           refine seq_skip hA rfl rfl rfl ?_
           intro a hA
           refine seq_skip hA rfl rfl rfl ?_
           intro a hA
           refine seq_skip hA rfl rfl rfl ?_
           intro a hA
           refine seq_skip hA rfl rfl rfl ?_
           intro a hA
           refine seq_skip hA rfl rfl rfl ?_
           intro a hA
           refine seq_skip hA rfl rfl rfl ?_
           intro a hA
           refine seq_do (v := .bool false) hA rfl rfl rfl (does_pick rfl rfl rfl rfl) ?_
           intro a hA
           refine seq_do hA rfl rfl rfl (does_assign rfl) ?_
           intro a hA
           refine seq_end ?_
           refine hK67 _ _ ?_
           refine wp_cond_false (hA.ev rfl) ?_
           refine wp_region_lit ?_
           refine seq_do hA rfl rfl rfl (does_move rfl) ?_
           intro a hA
           refine seq_do hA rfl rfl rfl (does_move rfl) ?_
           intro a hA
           refine seq_do (v := .agg #[.int .i32 0, .bool true, .int .i64 (((0 + 2 * i2 : Nat) : Int))]) hA rfl rfl rfl (does_build rfl (fun w => by kernel_rfl)) ?_
           intro a hA
           refine s_litE (e := 78) (sz := 3) (m := 1) (vs := [.int .i32 0, .bool true, .int .i64 (((0 + 2 * i2 : Nat) : Int))]) hA hM rfl rfl rfl (does_buildSlice rfl (by kernel_rfl)) rfl rfl (.inl (by decide)) ?_
           intro g89 w90 hM a hA
           refine s_appendE (e := 78) (sz := 3) (k := 2) (q := acc.length) (m := 1) (xs := (unitV acc)) (news := [.int .i32 0, .bool true, .int .i64 (((0 + 2 * i2 : Nat) : Int))]) (L' := fun v91 => (.row 78 3 (.slice (some ⟨g89, 0, none⟩) 1 1) 1 ([.int .i32 0, .bool true, .int .i64 (((0 + 2 * i2 : Nat) : Int))]) :: .row 21 1 (.slice sn q cn) q ((runeV (numsL hi2 l 0 q))) :: .row 78 3 (v91) (acc.length + 1) ((unitV acc) ++ [.int .i32 0, .bool true, .int .i64 (((0 + 2 * i2 : Nat) : Int))]) :: [])) hA rfl rfl rfl (m_appendE (z := .agg #[.int .i32 0, .bool false, .int .i64 0]) (sz := 3) (by_ := 16) Try.underlying75 (by kernel_rfl) rfl rfl rfl hM 2 rfl rfl 0 rfl rfl rfl rfl (by omega)) (fun _ => rfl) ?_
           intro v91 w92 hM a hA
           refine seq_do hA rfl rfl rfl (does_assign rfl) ?_
           intro a hA
           refine seq_end ?_
           refine hK53 _ _ ?_
           refine wp_region_lit ?_
           refine seq_do hA rfl rfl rfl (does_move rfl) ?_
           intro a hA
           refine seq_do (v := .int .i64 (((i2 + 1 : Nat) : Int))) hA rfl rfl rfl (does_bin rfl rfl (ar_add ((in_i64 (by omega) (by omega)).trans (by omega)))) ?_
           intro a hA
           refine seq_do hA rfl rfl rfl (does_assign rfl) ?_
           intro a hA
           refine seq_end ?_
           replace hM : Mg w w92 (.row 21 1 (.slice sn q cn) q ((runeV (numsL hi2 l 0 q))) :: .row 78 3 (v91) ((acc ++ [(((0 + 2 * i2 : Nat) : Int), -1)]).length) ((unitV (acc ++ [(((0 + 2 * i2 : Nat) : Int), -1)]))) :: []) := by
             have h9 := hM.sub (.cons _ (.cons_cons _ (.cons_cons _ (.refl _))))
             rw [unitV_snoc_bad, List.length_append]
             exact h9
           refine hK48 _ _ _ (by omega) ⟨i2 + 1, acc ++ [(((0 + 2 * i2 : Nat) : Int), -1)], v91, rfl, ⟨by rw [← hrun, pair_bad (g := hi2) (l := l) (p := 0 + 2 * i2) (by omega) hn (by omega) (by omega) (fun _ _ => by exfalso; omega), show 0 + 2 * (i2 + 1) = 0 + 2 * i2 + 2 from by omega, List.append_assoc]; rfl, by omega, by rw [List.length_append]; simp only [List.length_cons, List.length_nil]; omega⟩, hA.keep _ ⟨rfl, rfl, rfl, rfl, rfl, rfl, rfl, rfl, rfl, rfl, rfl, rfl, rfl, rfl, rfl, rfl, rfl, rfl, rfl, rfl, rfl, rfl, rfl, rfl, rfl, rfl, rfl, rfl, rfl, rfl, rfl, rfl, trivial⟩, hM⟩
   · have hb52' := of_decide_eq_false hb52
     refine seq_do (v := .bool false) hA rfl rfl rfl (does_bin rfl rfl (fun w => (bin_lss w).trans (by rw [hb52]))) ?_
     intro a hA
     refine seq_end ?_
     refine hK51 _ _ ?_
     refine wp_cond_false (hA.ev rfl) ?_
     refine wp_exit ?_
     refine hK45 _ _ ?_
     refine wp_seq_k (fun K93 hK93 => ?_)
     refine wp_seq_k (fun K94 hK94 => ?_)
     refine wp_region_lit ?_
     refine seq_do hA rfl rfl rfl (does_move rfl) ?_
     intro a hA
     refine seq_do (v := .int .i64 (((l.length : Nat) : Int))) hA rfl rfl rfl (does_len Try.underlying24 rfl) ?_
     intro a hA
     refine seq_do hA rfl rfl rfl (does_move rfl) ?_
     intro a hA
     refine seq_do (v := .int .i64 ((((l.length) - 0 : Nat) : Int))) hA rfl rfl rfl (does_bin rfl rfl (ar_sub ((in_i64 (by omega) (by omega)).trans (by omega)))) ?_
     intro a hA
     refine seq_do (v := .int .i64 (((((l.length) - 0) % 2 : Nat) : Int))) hA rfl rfl rfl (does_bin rfl rfl (ar_rem (by decide) ((Int.tmod_eq_emod_of_nonneg (by omega)).trans (by omega)))) ?_
     intro a hA
     rcases Bool.eq_false_or_eq_true ((((((l.length) - 0) % 2 : Nat) : Int) == 1)) with hb95 | hb95
     · have hb95' := eq_of_beq hb95
       refine seq_do (v := .bool true) hA rfl rfl rfl (does_bin rfl rfl (fun w => (bin_eql w).trans (by rw [hb95]))) ?_
       intro a hA
       refine seq_end ?_
       refine hK94 _ _ ?_
       refine wp_cond_true (hA.ev rfl) ?_
       refine wp_region_lit ?_
       refine seq_do hA rfl rfl rfl (does_move rfl) ?_
       intro a hA
       refine seq_do hA rfl rfl rfl (does_move rfl) ?_
       intro a hA
       refine seq_do (v := .int .i64 (((l.length : Nat) : Int))) hA rfl rfl rfl (does_len Try.underlying24 rfl) ?_
       intro a hA
       refine seq_do (v := .int .i64 ((((l.length) - 1 : Nat) : Int))) hA rfl rfl rfl (does_bin rfl rfl (ar_sub ((in_i64 (by omega) (by omega)).trans (by omega)))) ?_
       intro a hA
       refine seq_do (v := .agg #[.int .i32 0, .bool true, .int .i64 ((((l.length) - 1 : Nat) : Int))]) hA rfl rfl rfl (does_build rfl (fun w => by kernel_rfl)) ?_
       intro a hA
       refine s_litE (e := 78) (sz := 3) (m := 1) (vs := [.int .i32 0, .bool true, .int .i64 ((((l.length) - 1 : Nat) : Int))]) hA hM rfl rfl rfl (does_buildSlice rfl (by kernel_rfl)) rfl rfl (.inl (by decide)) ?_
       intro g96 w97 hM a hA
       refine s_appendE (e := 78) (sz := 3) (k := 2) (q := acc.length) (m := 1) (xs := (unitV acc)) (news := [.int .i32 0, .bool true, .int .i64 ((((l.length) - 1 : Nat) : Int))]) (L' := fun v98 => (.row 78 3 (.slice (some ⟨g96, 0, none⟩) 1 1) 1 ([.int .i32 0, .bool true, .int .i64 ((((l.length) - 1 : Nat) : Int))]) :: .row 21 1 (.slice sn q cn) q ((runeV (numsL hi2 l 0 q))) :: .row 78 3 (v98) (acc.length + 1) ((unitV acc) ++ [.int .i32 0, .bool true, .int .i64 ((((l.length) - 1 : Nat) : Int))]) :: [])) hA rfl rfl rfl (m_appendE (z := .agg #[.int .i32 0, .bool false, .int .i64 0]) (sz := 3) (by_ := 16) Try.underlying75 (by kernel_rfl) rfl rfl rfl hM 2 rfl rfl 0 rfl rfl rfl rfl (by omega)) (fun _ => rfl) ?_
       intro v98 w99 hM a hA
       refine seq_do hA rfl rfl rfl (does_assign rfl) ?_
       intro a hA
       refine seq_end ?_
       refine hK93 _ _ ?_
       refine wp_seq_k (fun K100 hK100 => ?_)
       refine wp_region_lit ?_
       refine seq_do hA rfl rfl rfl (does_move rfl) ?_
       intro a hA
       refine seq_do hA rfl rfl rfl (does_assign rfl) ?_
       intro a hA
       refine seq_end ?_
       refine hK100 _ _ ?_
       refine wp_ret ?_
       refine hret _ _ ?_
       refine ends (v := v98) hA rfl (.cons (res_tmp rfl) .nil) rfl ?_
       replace hM : Mg w w99 (.row 21 1 (.slice sn q cn) q ((runeV (numsL hi2 l 0 q))) :: .row 78 3 (v98) ((acc ++ [((((l.length) - 1 : Nat) : Int), -1)]).length) ((unitV (acc ++ [((((l.length) - 1 : Nat) : Int), -1)]))) :: []) := by
         have h9 := hM.sub (.cons _ (.cons_cons _ (.cons_cons _ (.refl _))))
         rw [unitV_snoc_bad, List.length_append]
         exact h9
       have he9 := pair_end (g := hi2) (l := l) (p := 0 + 2 * i2) (by omega)
       rw [he9, show ((0 + 2 * i2 : Nat) : Int) = (((l.length) - 1 : Nat) : Int) from by omega] at hrun
       rw [← hrun]
       exact ⟨_, rfl, hM.sub (.cons _ (.cons_cons _ (.refl _)))⟩
     · have hb95' := ne_of_beq_false hb95
       refine seq_do (v := .bool false) hA rfl rfl rfl (does_bin rfl rfl (fun w => (bin_eql w).trans (by rw [hb95]))) ?_
       intro a hA
       refine seq_end ?_
       refine hK94 _ _ ?_
       refine wp_cond_false (hA.ev rfl) ?_
       refine wp_skip ?_
       refine hK93 _ _ ?_
       refine wp_seq_k (fun K101 hK101 => ?_)
       refine wp_region_lit ?_
       refine seq_do hA rfl rfl rfl (does_move rfl) ?_
       intro a hA
       refine seq_do hA rfl rfl rfl (does_assign rfl) ?_
       intro a hA
       refine seq_end ?_
       refine hK101 _ _ ?_
       refine wp_ret ?_
       refine hret _ _ ?_
       refine ends (v := vo) hA rfl (.cons (res_tmp rfl) .nil) rfl ?_
       rw [restW_over (by omega), List.append_nil] at hrun
       subst hrun
       exact ⟨_, rfl, hM.sub (.cons _ (.cons_cons _ (.refl _)))⟩
set_option maxHeartbeats 4000000 in
theorem rutf16_p1 {w : World} {so : Option Addr} {cap : Nat} {l : List UInt8} (hb : Rb w so l) (hlen : l.length ≤ 1000000) (klen : (decide (2 ≤ ((l.length : Nat) : Int))) = true) (ka : (((((l.getD (0) 0).toNat : Nat) : Int) == 254)) = true) (kb : (((((l.getD (1) 0).toNat : Nat) : Int) == 255)) = true) (kc : (((((l.getD (0) 0).toNat : Nat) : Int) == 255)) = false) : Calls Try.prog 71 #[.slice so l.length cap] w fun e w' => ∃ v, e = .returned v ∧ Mg w w' [.row 78 3 v (unitsW l).length (unitV (unitsW l))] := by
 have klen' := of_decide_eq_true klen
 have ka' := eq_of_beq ka
 have kb' := eq_of_beq kb
 have kc' := ne_of_beq_false kc
 have hM : Mg w w ([]) := Mg.start w
 refine walk_of (l := [(0, .slice so l.length cap)]) Try.func71 rfl Try.ntmps71 rfl rfl ?_
 intro Q hret hnorm hP a hA
 refine wp_seq_k (fun K1 hK1 => ?_)
 refine wp_region_lit ?_
 refine seq_do hA rfl rfl rfl (does_assign rfl) ?_
 intro a hA
 refine seq_end ?_
 refine hK1 _ _ ?_
 refine wp_seq_k (fun K2 hK2 => ?_)
 refine wp_region_lit ?_
 refine s_litE (e := 78) (sz := 3) (m := 0) (vs := []) hA hM rfl rfl rfl (does_buildSlice rfl (by kernel_rfl)) rfl rfl (.inl (by decide)) ?_
 intro g3 w4 hM a hA
 refine seq_do hA rfl rfl rfl (does_assign rfl) ?_
 intro a hA
 refine seq_end ?_
 refine hK2 _ _ ?_
 refine wp_seq_k (fun K5 hK5 => ?_)
 refine wp_region_lit ?_
 refine seq_do hA rfl rfl rfl (does_assign rfl) ?_
 intro a hA
 refine seq_end ?_
 refine hK5 _ _ ?_
 refine wp_seq_k (fun K6 hK6 => ?_)
 refine wp_region_lit ?_
 refine seq_do hA rfl rfl rfl (does_assign rfl) ?_
 intro a hA
 refine seq_end ?_
 refine hK6 _ _ ?_
 refine wp_seq_k (fun K7 hK7 => ?_)
 refine wp_seq_k (fun K8 hK8 => ?_)
 refine wp_region_lit ?_
 refine seq_do hA rfl rfl rfl (does_move rfl) ?_
 intro a hA
 refine seq_do (v := .int .i64 (((l.length : Nat) : Int))) hA rfl rfl rfl (does_len Try.underlying24 rfl) ?_
 intro a hA
 refine seq_do (v := .bool true) hA rfl rfl rfl (does_bin rfl rfl (fun w => (bin_geq w).trans (by rw [show (decide (2 ≤ ((l.length : Nat) : Int))) = true from klen]))) ?_
 intro a hA
 refine seq_do hA rfl rfl rfl (does_move rfl) ?_
 intro a hA
 refine seq_do hA rfl rfl rfl (does_move rfl) ?_
 intro a hA
 obtain ⟨bx9, ox10, hxa11, hxb12, hxc13⟩ := rb_open (i := 0) hb (by omega)
 refine seq_do (v := .pointer (some ⟨bx9, ox10 + (0), none⟩)) hA rfl rfl rfl (does_indexRow Try.underlying24 (by kernel_rfl) rfl rfl rfl hxa11 (show 0 < l.length by omega)) ?_
 intro a hA
 refine seq_do (v := .int .u8 ((((l.getD (0) 0).toNat : Nat) : Int))) hA rfl rfl rfl (m_loadR hM hxb12 (hxc13 (0) (by omega)) CpD_is1_5 rfl) ?_
 intro a hA
 have hu14 := (l.getD (0) 0).toNat_lt
 refine seq_do (v := .bool true) hA rfl rfl rfl (does_bin rfl rfl (fun w => (bin_eql w).trans (by rw [show (((((l.getD (0) 0).toNat : Nat) : Int) == 254)) = true from ka]))) ?_
 intro a hA
 refine seq_do (v := .bool true) hA rfl rfl rfl (does_pick rfl rfl rfl rfl) ?_
 intro a hA
 refine seq_do hA rfl rfl rfl (does_move rfl) ?_
 intro a hA
 refine seq_do hA rfl rfl rfl (does_move rfl) ?_
 intro a hA
 obtain ⟨bx15, ox16, hxa17, hxb18, hxc19⟩ := rb_open (i := 1) hb (by omega)
 refine seq_do (v := .pointer (some ⟨bx15, ox16 + (1), none⟩)) hA rfl rfl rfl (does_indexRow Try.underlying24 (by kernel_rfl) rfl rfl rfl hxa17 (show 1 < l.length by omega)) ?_
 intro a hA
 refine seq_do (v := .int .u8 ((((l.getD (1) 0).toNat : Nat) : Int))) hA rfl rfl rfl (m_loadR hM hxb18 (hxc19 (1) (by omega)) CpD_is1_5 rfl) ?_
 intro a hA
 have hu20 := (l.getD (1) 0).toNat_lt
 refine seq_do (v := .bool true) hA rfl rfl rfl (does_bin rfl rfl (fun w => (bin_eql w).trans (by rw [show (((((l.getD (1) 0).toNat : Nat) : Int) == 255)) = true from kb]))) ?_
 intro a hA
 refine seq_do (v := .bool true) hA rfl rfl rfl (does_pick rfl rfl rfl rfl) ?_
 intro a hA
 refine seq_end ?_
 refine hK8 _ _ ?_
 refine wp_cond_true (hA.ev rfl) ?_
 refine wp_region_lit ?_
 refine seq_do hA rfl rfl rfl (does_assign rfl) ?_
 intro a hA
 refine seq_end ?_
 refine hK7 _ _ ?_
 refine wp_seq_k (fun K21 hK21 => ?_)
 refine wp_seq_k (fun K22 hK22 => ?_)
 refine wp_region_lit ?_
 refine seq_do hA rfl rfl rfl (does_move rfl) ?_
 intro a hA
 refine seq_do (v := .int .i64 (((l.length : Nat) : Int))) hA rfl rfl rfl (does_len Try.underlying24 rfl) ?_
 intro a hA
 refine seq_do (v := .bool true) hA rfl rfl rfl (does_bin rfl rfl (fun w => (bin_geq w).trans (by rw [show (decide (2 ≤ ((l.length : Nat) : Int))) = true from klen]))) ?_
 intro a hA
 refine seq_do hA rfl rfl rfl (does_move rfl) ?_
 intro a hA
 refine seq_do hA rfl rfl rfl (does_move rfl) ?_
 intro a hA
 obtain ⟨bx23, ox24, hxa25, hxb26, hxc27⟩ := rb_open (i := 0) hb (by omega)
 refine seq_do (v := .pointer (some ⟨bx23, ox24 + (0), none⟩)) hA rfl rfl rfl (does_indexRow Try.underlying24 (by kernel_rfl) rfl rfl rfl hxa25 (show 0 < l.length by omega)) ?_
 intro a hA
 refine seq_do (v := .int .u8 ((((l.getD (0) 0).toNat : Nat) : Int))) hA rfl rfl rfl (m_loadR hM hxb26 (hxc27 (0) (by omega)) CpD_is1_5 rfl) ?_
 intro a hA
 have hu28 := (l.getD (0) 0).toNat_lt
 refine seq_do (v := .bool false) hA rfl rfl rfl (does_bin rfl rfl (fun w => (bin_eql w).trans (by rw [show (((((l.getD (0) 0).toNat : Nat) : Int) == 255)) = false from kc]))) ?_
 intro a hA
 refine seq_do (v := .bool false) hA rfl rfl rfl (does_pick rfl rfl rfl rfl) ?_
 intro a hA
 refine seq_do hA rfl rfl rfl (does_move rfl) ?_
 intro a hA
 refine seq_skip hA rfl rfl rfl ?_
 intro a hA
 refine seq_skip hA rfl rfl rfl ?_
 intro a hA
 refine seq_skip hA rfl rfl rfl ?_
 intro a hA
 refine seq_skip hA rfl rfl rfl ?_
 intro a hA
 refine seq_do (v := .bool false) hA rfl rfl rfl (does_pick rfl rfl rfl rfl) ?_
 intro a hA
 refine seq_end ?_
 refine hK22 _ _ ?_
 refine wp_cond_false (hA.ev rfl) ?_
 refine wp_skip ?_
 refine hK21 _ _ ?_
 refine wp_seq_k (fun K29 hK29 => ?_)
 refine wp_region_lit ?_
 refine s_litE (e := 21) (sz := 1) (m := 0) (vs := []) hA hM rfl rfl rfl (does_buildSlice rfl (by kernel_rfl)) rfl rfl (.inl (by decide)) ?_
 intro g30 w31 hM a hA
 refine seq_do hA rfl rfl rfl (does_assign rfl) ?_
 intro a hA
 refine seq_end ?_
 refine hK29 _ _ ?_
 refine wp_seq_k (fun K32 hK32 => ?_)
 refine wp_region_lit ?_
 refine seq_do hA rfl rfl rfl (does_move rfl) ?_
 intro a hA
 refine seq_do hA rfl rfl rfl (does_assign rfl) ?_
 intro a hA
 refine seq_end ?_
 refine hK32 _ _ ?_
 refine wp_seq_k (fun K33 hK33 => ?_)
 refine wp_seq_k (fun K34 hK34 => ?_)
 refine wp_region_lit ?_
 refine seq_do hA rfl rfl rfl (does_move rfl) ?_
 intro a hA
 refine seq_do hA rfl rfl rfl (does_assign rfl) ?_
 intro a hA
 refine seq_end ?_
 refine hK34 _ _ ?_
 refine wp_block ?_
 refine wp_loop_n (fun m_ a w1 => ∃ (q : Nat) (sn : Option Addr) (cn : Nat), m_ = l.length - q ∧ (2 + 2 * q ≤ l.length ∨ q = 0) ∧ Sl a 175 [(0, .slice so l.length cap), (2, .slice none 0 0), (3, .slice (some ⟨g3, 0, none⟩) 0 0), (4, .int .i64 2), (5, .bool false), (6, .slice sn q cn), (7, .int .i64 2), (8, .int .i64 (((2 + 2 * q : Nat) : Int))), (13, .slice (some ⟨g3, 0, none⟩) 0 0), (14, .slice so l.length cap), (15, .int .i64 (((l.length : Nat) : Int))), (16, .bool true), (17, .bool true), (18, .slice so l.length cap), (19, .pointer (some ⟨bx9, ox10 + (0), none⟩)), (20, .int .u8 ((((l.getD (0) 0).toNat : Nat) : Int))), (21, .bool true), (22, .bool true), (23, .bool true), (24, .slice so l.length cap), (25, .pointer (some ⟨bx15, ox16 + (1), none⟩)), (26, .int .u8 ((((l.getD (1) 0).toNat : Nat) : Int))), (27, .bool true), (28, .bool true), (29, .slice so l.length cap), (30, .int .i64 (((l.length : Nat) : Int))), (31, .bool true), (32, .bool true), (33, .slice so l.length cap), (34, .pointer (some ⟨bx23, ox24 + (0), none⟩)), (35, .int .u8 ((((l.getD (0) 0).toNat : Nat) : Int))), (36, .bool false), (37, .bool false), (38, .bool false), (43, .bool false), (44, .slice (some ⟨g30, 0, none⟩) 0 0), (45, .int .i64 2), (46, .int .i64 2)] ∧ Mg w w1 (.row 21 1 (.slice sn q cn) q ((runeV (numsL hi2 l 2 q))) :: .row 78 3 (.slice (some ⟨g3, 0, none⟩) 0 0) 0 ([]) :: [])) _ ⟨0, some ⟨g30, 0, none⟩, 0, rfl, by omega, hA.keep _ ⟨rfl, rfl, rfl, rfl, rfl, rfl, rfl, rfl, rfl, rfl, rfl, rfl, rfl, rfl, rfl, rfl, rfl, rfl, rfl, rfl, rfl, rfl, rfl, rfl, rfl, rfl, rfl, rfl, rfl, rfl, rfl, rfl, rfl, rfl, rfl, rfl, rfl, rfl, trivial⟩, hM⟩ ?_
 clear hM hA
 rintro m_ a w35 ⟨q, sn, cn, rfl, hinv37, hA, hM⟩ K36 hK36
 refine wp_seq_k (fun K38 hK38 => ?_)
 refine wp_seq_k (fun K39 hK39 => ?_)
 refine wp_region_lit ?_
 refine seq_do hA rfl rfl rfl (does_move rfl) ?_
 intro a hA
 refine seq_do (v := .int .i64 (((2 + 2 * q + 1 : Nat) : Int))) hA rfl rfl rfl (does_bin rfl rfl (ar_add ((in_i64 (by omega) (by omega)).trans (by omega)))) ?_
 intro a hA
 refine seq_do hA rfl rfl rfl (does_move rfl) ?_
 intro a hA
 refine seq_do (v := .int .i64 (((l.length : Nat) : Int))) hA rfl rfl rfl (does_len Try.underlying24 rfl) ?_
 intro a hA
 rcases Bool.eq_false_or_eq_true (decide (((2 + 2 * q + 1 : Nat) : Int) < ((l.length : Nat) : Int))) with hb40 | hb40
 · have hb40' := of_decide_eq_true hb40
   refine seq_do (v := .bool true) hA rfl rfl rfl (does_bin rfl rfl (fun w => (bin_lss w).trans (by rw [hb40]))) ?_
   intro a hA
   refine seq_end ?_
   refine hK39 _ _ ?_
   refine wp_cond_true (hA.ev rfl) ?_
   refine wp_skip ?_
   refine hK38 _ _ ?_
   refine wp_seq_k (fun K41 hK41 => ?_)
   refine wp_block ?_
   refine wp_seq_k (fun K42 hK42 => ?_)
   refine wp_draw (S := fun w1 => Mg w w1 ([])) (by kernel_rfl) ?_
   replace hM := hM.drew
   refine any_tk hA 0 rfl rfl rfl rfl hP (hM.sub (.cons _ (.cons _ (List.nil_sublist _)))) (fun w1 hM => does_move rfl) ?_
   intro a hA
   refine any_tk hA 1 rfl rfl rfl rfl hP (hM.sub (.cons _ (.cons _ (List.nil_sublist _)))) (fun w1 hM => does_move rfl) ?_
   intro a hA
   obtain ⟨bx43, ox44, hxa45, hxb46, hxc47⟩ := rb_open (i := 2 + 2 * q) hb (by omega)
   refine any_tk (v := .pointer (some ⟨bx43, ox44 + (2 + 2 * q), none⟩)) hA 2 rfl rfl rfl rfl hP (hM.sub (.cons _ (.cons _ (List.nil_sublist _)))) (fun w1 hM => does_indexRow Try.underlying24 (by kernel_rfl) rfl rfl rfl hxa45 (show 2 + 2 * q < l.length by omega)) ?_
   intro a hA
   refine any_tk (v := .int .u8 ((((l.getD (2 + 2 * q) 0).toNat : Nat) : Int))) hA 3 rfl rfl rfl rfl hP (hM.sub (.cons _ (.cons _ (List.nil_sublist _)))) (fun w1 hM => m_loadR hM hxb46 (hxc47 (2 + 2 * q) (by omega)) CpD_is1_5 rfl) ?_
   intro a hA
   have hu48 := (l.getD (2 + 2 * q) 0).toNat_lt
   refine any_tk (v := .int .i32 ((((l.getD (2 + 2 * q) 0).toNat : Nat) : Int))) hA 4 rfl rfl rfl rfl hP (hM.sub (.cons _ (.cons _ (List.nil_sublist _)))) (fun w1 hM => does_convert rfl (ar_conv Try.underlying5 Try.underlying21 (in_i32 (by omega) (by omega)))) ?_
   intro a hA
   refine any_tk (v := .int .i32 ((((l.getD (2 + 2 * q) 0).toNat : Nat) : Int) * 256)) hA 5 rfl rfl rfl rfl hP (hM.sub (.cons _ (.cons _ (List.nil_sublist _)))) (fun w1 hM => does_bin rfl rfl (ar_mul (in_i32 (by omega) (by omega)))) ?_
   intro a hA
   refine any_tk hA 6 rfl rfl rfl rfl hP (hM.sub (.cons _ (.cons _ (List.nil_sublist _)))) (fun w1 hM => does_move rfl) ?_
   intro a hA
   refine any_tk hA 7 rfl rfl rfl rfl hP (hM.sub (.cons _ (.cons _ (List.nil_sublist _)))) (fun w1 hM => does_move rfl) ?_
   intro a hA
   refine any_tk (v := .int .i64 (((2 + 2 * q + 1 : Nat) : Int))) hA 8 rfl rfl rfl rfl hP (hM.sub (.cons _ (.cons _ (List.nil_sublist _)))) (fun w1 hM => does_bin rfl rfl (ar_add ((in_i64 (by omega) (by omega)).trans (by omega)))) ?_
   intro a hA
   obtain ⟨bx49, ox50, hxa51, hxb52, hxc53⟩ := rb_open (i := 2 + 2 * q + 1) hb (by omega)
   refine any_tk (v := .pointer (some ⟨bx49, ox50 + (2 + 2 * q + 1), none⟩)) hA 9 rfl rfl rfl rfl hP (hM.sub (.cons _ (.cons _ (List.nil_sublist _)))) (fun w1 hM => does_indexRow Try.underlying24 (by kernel_rfl) rfl rfl rfl hxa51 (show 2 + 2 * q + 1 < l.length by omega)) ?_
   intro a hA
   refine any_tk (v := .int .u8 ((((l.getD (2 + 2 * q + 1) 0).toNat : Nat) : Int))) hA 10 rfl rfl rfl rfl hP (hM.sub (.cons _ (.cons _ (List.nil_sublist _)))) (fun w1 hM => m_loadR hM hxb52 (hxc53 (2 + 2 * q + 1) (by omega)) CpD_is1_5 rfl) ?_
   intro a hA
   have hu54 := (l.getD (2 + 2 * q + 1) 0).toNat_lt
   refine any_tk (v := .int .i32 ((((l.getD (2 + 2 * q + 1) 0).toNat : Nat) : Int))) hA 11 rfl rfl rfl rfl hP (hM.sub (.cons _ (.cons _ (List.nil_sublist _)))) (fun w1 hM => does_convert rfl (ar_conv Try.underlying5 Try.underlying21 (in_i32 (by omega) (by omega)))) ?_
   intro a hA
   refine any_tk (v := .int .i32 (((hi2 (l.getD (2 + 2 * q) 0).toNat (l.getD (2 + 2 * q + 1) 0).toNat : Nat) : Int))) hA 12 rfl rfl rfl rfl hP (hM.sub (.cons _ (.cons _ (List.nil_sublist _)))) (fun w1 hM => does_bin rfl rfl (ar_add ((in_i32 (by omega) (by omega)).trans (by unfold hi2; omega)))) ?_
   intro a hA
   refine any_tk hA 13 rfl rfl rfl rfl hP (hM.sub (.cons _ (.cons _ (List.nil_sublist _)))) (fun w1 hM => does_assign rfl) ?_
   intro a hA
   refine any_end (by kernel_rfl) ?_
   refine hK42 _ _ ?_
   refine wp_seq_k (fun K55 hK55 => ?_)
   refine wp_seq_k (fun K56 hK56 => ?_)
   refine wp_region_lit ?_
   refine seq_do hA rfl rfl rfl (does_move rfl) ?_
   intro a hA
   refine seq_end ?_
   refine hK56 _ _ ?_
   refine wp_cond_false (hA.ev rfl) ?_
   refine wp_skip ?_
   refine hK55 _ _ ?_
   refine wp_region_lit ?_
   refine seq_do hA rfl rfl rfl (does_move rfl) ?_
   intro a hA
   refine seq_do hA rfl rfl rfl (does_move rfl) ?_
   intro a hA
   refine s_litE (e := 21) (sz := 1) (m := 1) (vs := [.int .i32 (((hi2 (l.getD (2 + 2 * q) 0).toNat (l.getD (2 + 2 * q + 1) 0).toNat : Nat) : Int))]) hA hM rfl rfl rfl (does_buildSlice rfl (by kernel_rfl)) rfl rfl (.inl (by decide)) ?_
   intro g57 w58 hM a hA
   refine s_appendE (e := 21) (sz := 1) (k := 1) (q := q) (m := 1) (xs := (runeV (numsL hi2 l 2 q))) (news := [.int .i32 (((hi2 (l.getD (2 + 2 * q) 0).toNat (l.getD (2 + 2 * q + 1) 0).toNat : Nat) : Int))]) (L' := fun v59 => (.row 21 1 (.slice (some ⟨g57, 0, none⟩) 1 1) 1 ([.int .i32 (((hi2 (l.getD (2 + 2 * q) 0).toNat (l.getD (2 + 2 * q + 1) 0).toNat : Nat) : Int))]) :: .row 21 1 (v59) (q + 1) ((runeV (numsL hi2 l 2 q)) ++ [.int .i32 (((hi2 (l.getD (2 + 2 * q) 0).toNat (l.getD (2 + 2 * q + 1) 0).toNat : Nat) : Int))]) :: .row 78 3 (.slice (some ⟨g3, 0, none⟩) 0 0) 0 ([]) :: [])) hA rfl rfl rfl (m_appendE (z := .int .i32 0) (sz := 1) (by_ := 4) Try.underlying74 (by kernel_rfl) rfl rfl rfl hM 1 rfl rfl 0 rfl rfl rfl rfl (by omega)) (fun _ => rfl) ?_
   intro v59 w60 hM a hA
   refine seq_do hA rfl rfl rfl (does_assign rfl) ?_
   intro a hA
   refine seq_end ?_
   refine hK41 _ _ ?_
   refine wp_region_lit ?_
   refine seq_do hA rfl rfl rfl (does_move rfl) ?_
   intro a hA
   refine seq_do (v := .int .i64 (((2 + 2 * q + 2 : Nat) : Int))) hA rfl rfl rfl (does_bin rfl rfl (ar_add ((in_i64 (by omega) (by omega)).trans (by omega)))) ?_
   intro a hA
   refine seq_do hA rfl rfl rfl (does_assign rfl) ?_
   intro a hA
   refine seq_end ?_
   replace hM : Mg w w60 (.row 21 1 (v59) ((q + 1)) ((runeV (numsL hi2 l 2 (q + 1)))) :: .row 78 3 (.slice (some ⟨g3, 0, none⟩) 0 0) 0 ([]) :: []) := by
     have h9 := hM.sub (.cons _ (.cons_cons _ (.cons_cons _ (.refl _))))
     rw [nums_more]
     unfold runeV at h9 ⊢
     rw [List.map_append]
     exact h9
   obtain ⟨so61, ca62, rfl⟩ := owns_sliceE (hM.has 0 rfl)
   refine hK36 _ _ _ (by omega) ⟨q + 1, so61, ca62, rfl, by omega, hA.keep _ ⟨rfl, rfl, rfl, rfl, rfl, rfl, rfl, rfl, rfl, rfl, rfl, rfl, rfl, rfl, rfl, rfl, rfl, rfl, rfl, rfl, rfl, rfl, rfl, rfl, rfl, rfl, rfl, rfl, rfl, rfl, rfl, rfl, rfl, rfl, rfl, rfl, rfl, rfl, trivial⟩, hM⟩
 · have hb40' := of_decide_eq_false hb40
   refine seq_do (v := .bool false) hA rfl rfl rfl (does_bin rfl rfl (fun w => (bin_lss w).trans (by rw [hb40]))) ?_
   intro a hA
   refine seq_end ?_
   refine hK39 _ _ ?_
   refine wp_cond_false (hA.ev rfl) ?_
   refine wp_exit ?_
   refine hK33 _ _ ?_
   refine wp_seq_k (fun K63 hK63 => ?_)
   refine wp_seq_k (fun K64 hK64 => ?_)
   refine wp_region_lit ?_
   refine seq_do hA rfl rfl rfl (does_assign rfl) ?_
   intro a hA
   refine seq_end ?_
   refine hK64 _ _ ?_
   refine wp_block ?_
   refine wp_loop_n (fun m_ a w1 => ∃ (i2 : Nat) (acc : List (Int × Int)) (vo : Value), m_ = q - i2 ∧ (acc ++ restW hi2 l (2 + 2 * i2) = unitsW l ∧ i2 ≤ q ∧ acc.length ≤ i2) ∧ Sl a 175 [(0, .slice so l.length cap), (2, .slice none 0 0), (3, vo), (4, .int .i64 2), (5, .bool false), (6, .slice sn q cn), (7, .int .i64 2), (8, .int .i64 (((2 + 2 * q : Nat) : Int))), (10, .int .i64 (((i2 : Nat) : Int))), (13, .slice (some ⟨g3, 0, none⟩) 0 0), (14, .slice so l.length cap), (15, .int .i64 (((l.length : Nat) : Int))), (16, .bool true), (17, .bool true), (18, .slice so l.length cap), (19, .pointer (some ⟨bx9, ox10 + (0), none⟩)), (20, .int .u8 ((((l.getD (0) 0).toNat : Nat) : Int))), (21, .bool true), (22, .bool true), (23, .bool true), (24, .slice so l.length cap), (25, .pointer (some ⟨bx15, ox16 + (1), none⟩)), (26, .int .u8 ((((l.getD (1) 0).toNat : Nat) : Int))), (27, .bool true), (28, .bool true), (29, .slice so l.length cap), (30, .int .i64 (((l.length : Nat) : Int))), (31, .bool true), (32, .bool true), (33, .slice so l.length cap), (34, .pointer (some ⟨bx23, ox24 + (0), none⟩)), (35, .int .u8 ((((l.getD (0) 0).toNat : Nat) : Int))), (36, .bool false), (37, .bool false), (38, .bool false), (43, .bool false), (44, .slice (some ⟨g30, 0, none⟩) 0 0), (45, .int .i64 2), (46, .int .i64 2), (47, .int .i64 (((2 + 2 * q : Nat) : Int))), (48, .int .i64 (((2 + 2 * q + 1 : Nat) : Int))), (49, .slice so l.length cap), (50, .int .i64 (((l.length : Nat) : Int))), (51, .bool false)] ∧ Mg w w1 (.row 21 1 (.slice sn q cn) q ((runeV (numsL hi2 l 2 q))) :: .row 78 3 (vo) acc.length ((unitV acc)) :: [])) _ ⟨0, [], .slice (some ⟨g3, 0, none⟩) 0 0, rfl, ⟨by rw [Nat.mul_zero, Nat.add_zero, List.nil_append, markW_hi (by omega) (by omega) (by omega)], Nat.zero_le _, Nat.le_refl _⟩, hA.keep _ ⟨rfl, rfl, rfl, rfl, rfl, rfl, rfl, rfl, rfl, rfl, rfl, rfl, rfl, rfl, rfl, rfl, rfl, rfl, rfl, rfl, rfl, rfl, rfl, rfl, rfl, rfl, rfl, rfl, rfl, rfl, rfl, rfl, rfl, rfl, rfl, rfl, rfl, rfl, rfl, rfl, rfl, rfl, rfl, rfl, trivial⟩, hM⟩ ?_
   clear hM hA
   rintro m_ a w65 ⟨i2, acc, vo, rfl, hinv67, hA, hM⟩ K66 hK66
   obtain ⟨hrun, hi9, hacc⟩ := hinv67
   refine wp_seq_k (fun K68 hK68 => ?_)
   refine wp_seq_k (fun K69 hK69 => ?_)
   refine wp_region_lit ?_
   refine seq_do hA rfl rfl rfl (does_move rfl) ?_
   intro a hA
   refine seq_do hA rfl rfl rfl (does_move rfl) ?_
   intro a hA
   refine seq_do (v := .int .i64 (((q : Nat) : Int))) hA rfl rfl rfl (does_len Try.underlying74 rfl) ?_
   intro a hA
   rcases Bool.eq_false_or_eq_true (decide (((i2 : Nat) : Int) < ((q : Nat) : Int))) with hb70 | hb70
   · have hb70' := of_decide_eq_true hb70
     refine seq_do (v := .bool true) hA rfl rfl rfl (does_bin rfl rfl (fun w => (bin_lss w).trans (by rw [hb70]))) ?_
     intro a hA
     refine seq_end ?_
     refine hK69 _ _ ?_
     refine wp_cond_true (hA.ev rfl) ?_
     refine wp_skip ?_
     refine hK68 _ _ ?_
     refine wp_seq_k (fun K71 hK71 => ?_)
     refine wp_block ?_
     refine wp_seq_k (fun K72 hK72 => ?_)
     refine wp_region_lit ?_
     refine seq_do hA rfl rfl rfl (does_move rfl) ?_
     intro a hA
     refine seq_do hA rfl rfl rfl (does_move rfl) ?_
     intro a hA
     obtain ⟨gn, hgn⟩ := row_addr hM 0 rfl (show 0 < q by omega)
     refine seq_do (v := .pointer (some ⟨gn, (i2) * 1, none⟩)) hA rfl rfl rfl (does_indexX Try.underlying74 (by kernel_rfl) rfl rfl rfl hgn (show i2 < q by omega)) ?_
     intro a hA
     obtain ⟨n, hn⟩ : ∃ n : Nat, hi2 (l.getD (2 + 2 * (i2)) 0).toNat (l.getD (2 + 2 * (i2) + 1) 0).toNat = n := ⟨_, rfl⟩
     have hltn : n < 65536 := hn ▸ hi2_lt _ _
     refine seq_do (v := .int .i32 (((n : Nat) : Int))) hA rfl rfl rfl (m_loadX hM 0 rfl hgn ((nums_at (g := hi2) (l := l) (f := 2) (n := q) (j := i2) (by omega)).trans (by rw [hn])) CpD_is1_21 rfl) ?_
     intro a hA
     refine seq_do hA rfl rfl rfl (does_assign rfl) ?_
     intro a hA
     refine seq_end ?_
     refine hK72 _ _ ?_
     refine wp_seq_k (fun K73 hK73 => ?_)
     refine wp_region_lit ?_
     refine seq_do hA rfl rfl rfl (does_move rfl) ?_
     intro a hA
     refine seq_do hA rfl rfl rfl (does_move rfl) ?_
     intro a hA
     refine seq_do (v := .int .i64 (((2 * i2 : Nat) : Int))) hA rfl rfl rfl (does_bin rfl rfl (ar_mul ((in_i64 (by omega) (by omega)).trans (by omega)))) ?_
     intro a hA
     refine seq_do (v := .int .i64 (((2 + 2 * i2 : Nat) : Int))) hA rfl rfl rfl (does_bin rfl rfl (ar_add ((in_i64 (by omega) (by omega)).trans (by omega)))) ?_
     intro a hA
     refine seq_do hA rfl rfl rfl (does_assign rfl) ?_
     intro a hA
     refine seq_end ?_
     refine hK73 _ _ ?_
     refine wp_block ?_
     refine wp_seq_k (fun K74 hK74 => ?_)
     refine wp_region_lit ?_
     refine seq_do hA rfl rfl rfl (does_move rfl) ?_
     intro a hA
     rcases Bool.eq_false_or_eq_true (decide (((n : Nat) : Int) < 55296)) with hb75 | hb75
     · have hb75' := of_decide_eq_true hb75
       refine seq_do (v := .bool true) hA rfl rfl rfl (does_bin rfl rfl (fun w => (bin_lss w).trans (by rw [hb75]))) ?_
       intro a hA
       refine seq_do hA rfl rfl rfl (does_move rfl) ?_
       intro a hA
       refine seq_skip hA rfl rfl rfl ?_
       intro a hA
       refine seq_skip hA rfl rfl rfl ?_
       intro a hA
       refine seq_do (v := .bool true) hA rfl rfl rfl (does_pick rfl rfl rfl rfl) ?_
       intro a hA
       refine seq_do hA rfl rfl rfl (does_assign rfl) ?_
       intro a hA
       refine seq_end ?_
       refine hK74 _ _ ?_
       refine wp_cond_true (hA.ev rfl) ?_
       refine wp_region_lit ?_
       refine seq_do hA rfl rfl rfl (does_move rfl) ?_
       intro a hA
       refine seq_do hA rfl rfl rfl (does_move rfl) ?_
       intro a hA
       refine seq_do hA rfl rfl rfl (does_move rfl) ?_
       intro a hA
       refine seq_do (v := .agg #[.int .i32 (((n : Nat) : Int)), .bool false, .int .i64 (((2 + 2 * i2 : Nat) : Int))]) hA rfl rfl rfl (does_build rfl (fun w => by kernel_rfl)) ?_
       intro a hA
       refine s_litE (e := 78) (sz := 3) (m := 1) (vs := [.int .i32 (((n : Nat) : Int)), .bool false, .int .i64 (((2 + 2 * i2 : Nat) : Int))]) hA hM rfl rfl rfl (does_buildSlice rfl (by kernel_rfl)) rfl rfl (.inl (by decide)) ?_
       intro g76 w77 hM a hA
       refine s_appendE (e := 78) (sz := 3) (k := 2) (q := acc.length) (m := 1) (xs := (unitV acc)) (news := [.int .i32 (((n : Nat) : Int)), .bool false, .int .i64 (((2 + 2 * i2 : Nat) : Int))]) (L' := fun v78 => (.row 78 3 (.slice (some ⟨g76, 0, none⟩) 1 1) 1 ([.int .i32 (((n : Nat) : Int)), .bool false, .int .i64 (((2 + 2 * i2 : Nat) : Int))]) :: .row 21 1 (.slice sn q cn) q ((runeV (numsL hi2 l 2 q))) :: .row 78 3 (v78) (acc.length + 1) ((unitV acc) ++ [.int .i32 (((n : Nat) : Int)), .bool false, .int .i64 (((2 + 2 * i2 : Nat) : Int))]) :: [])) hA rfl rfl rfl (m_appendE (z := .agg #[.int .i32 0, .bool false, .int .i64 0]) (sz := 3) (by_ := 16) Try.underlying75 (by kernel_rfl) rfl rfl rfl hM 2 rfl rfl 0 rfl rfl rfl rfl (by omega)) (fun _ => rfl) ?_
       intro v78 w79 hM a hA
       refine seq_do hA rfl rfl rfl (does_assign rfl) ?_
       intro a hA
       refine seq_end ?_
       refine hK71 _ _ ?_
       refine wp_region_lit ?_
       refine seq_do hA rfl rfl rfl (does_move rfl) ?_
       intro a hA
       refine seq_do (v := .int .i64 (((i2 + 1 : Nat) : Int))) hA rfl rfl rfl (does_bin rfl rfl (ar_add ((in_i64 (by omega) (by omega)).trans (by omega)))) ?_
       intro a hA
       refine seq_do hA rfl rfl rfl (does_assign rfl) ?_
       intro a hA
       refine seq_end ?_
       replace hM : Mg w w79 (.row 21 1 (.slice sn q cn) q ((runeV (numsL hi2 l 2 q))) :: .row 78 3 (v78) ((acc ++ [(((2 + 2 * i2 : Nat) : Int), ((n : Nat) : Int))]).length) ((unitV (acc ++ [(((2 + 2 * i2 : Nat) : Int), ((n : Nat) : Int))]))) :: []) := by
         have h9 := hM.sub (.cons _ (.cons_cons _ (.cons_cons _ (.refl _))))
         rw [unitV_snoc_good (by omega), List.length_append]
         exact h9
       refine hK66 _ _ _ (by omega) ⟨i2 + 1, acc ++ [(((2 + 2 * i2 : Nat) : Int), ((n : Nat) : Int))], v78, rfl, ⟨by rw [← hrun, pair_one (g := hi2) (l := l) (p := 2 + 2 * i2) (by omega) hn (by omega), show 2 + 2 * (i2 + 1) = 2 + 2 * i2 + 2 from by omega, List.append_assoc]; rfl, by omega, by rw [List.length_append]; simp only [List.length_cons, List.length_nil]; omega⟩, hA.keep _ ⟨rfl, rfl, rfl, rfl, rfl, rfl, rfl, rfl, rfl, rfl, rfl, rfl, rfl, rfl, rfl, rfl, rfl, rfl, rfl, rfl, rfl, rfl, rfl, rfl, rfl, rfl, rfl, rfl, rfl, rfl, rfl, rfl, rfl, rfl, rfl, rfl, rfl, rfl, rfl, rfl, rfl, rfl, rfl, rfl, trivial⟩, hM⟩
     · have hb75' := of_decide_eq_false hb75
       refine seq_do (v := .bool false) hA rfl rfl rfl (does_bin rfl rfl (fun w => (bin_lss w).trans (by rw [hb75]))) ?_
       intro a hA
       refine seq_do hA rfl rfl rfl (does_move rfl) ?_
       intro a hA
       refine seq_do hA rfl rfl rfl (does_move rfl) ?_
       intro a hA
       rcases Bool.eq_false_or_eq_true (decide (57343 < ((n : Nat) : Int))) with hb80 | hb80
       · have hb80' := of_decide_eq_true hb80
         refine seq_do (v := .bool true) hA rfl rfl rfl (does_bin rfl rfl (fun w => (bin_gtr w).trans (by rw [hb80]))) ?_
         intro a hA
         refine seq_do (v := .bool true) hA rfl rfl rfl (does_pick rfl rfl rfl rfl) ?_
         intro a hA
         refine seq_do hA rfl rfl rfl (does_assign rfl) ?_
         intro a hA
         refine seq_end ?_
         refine hK74 _ _ ?_
         refine wp_cond_true (hA.ev rfl) ?_
         refine wp_region_lit ?_
         refine seq_do hA rfl rfl rfl (does_move rfl) ?_
         intro a hA
         refine seq_do hA rfl rfl rfl (does_move rfl) ?_
         intro a hA
         refine seq_do hA rfl rfl rfl (does_move rfl) ?_
         intro a hA
         refine seq_do (v := .agg #[.int .i32 (((n : Nat) : Int)), .bool false, .int .i64 (((2 + 2 * i2 : Nat) : Int))]) hA rfl rfl rfl (does_build rfl (fun w => by kernel_rfl)) ?_
         intro a hA
         refine s_litE (e := 78) (sz := 3) (m := 1) (vs := [.int .i32 (((n : Nat) : Int)), .bool false, .int .i64 (((2 + 2 * i2 : Nat) : Int))]) hA hM rfl rfl rfl (does_buildSlice rfl (by kernel_rfl)) rfl rfl (.inl (by decide)) ?_
         intro g81 w82 hM a hA
         refine s_appendE (e := 78) (sz := 3) (k := 2) (q := acc.length) (m := 1) (xs := (unitV acc)) (news := [.int .i32 (((n : Nat) : Int)), .bool false, .int .i64 (((2 + 2 * i2 : Nat) : Int))]) (L' := fun v83 => (.row 78 3 (.slice (some ⟨g81, 0, none⟩) 1 1) 1 ([.int .i32 (((n : Nat) : Int)), .bool false, .int .i64 (((2 + 2 * i2 : Nat) : Int))]) :: .row 21 1 (.slice sn q cn) q ((runeV (numsL hi2 l 2 q))) :: .row 78 3 (v83) (acc.length + 1) ((unitV acc) ++ [.int .i32 (((n : Nat) : Int)), .bool false, .int .i64 (((2 + 2 * i2 : Nat) : Int))]) :: [])) hA rfl rfl rfl (m_appendE (z := .agg #[.int .i32 0, .bool false, .int .i64 0]) (sz := 3) (by_ := 16) Try.underlying75 (by kernel_rfl) rfl rfl rfl hM 2 rfl rfl 0 rfl rfl rfl rfl (by omega)) (fun _ => rfl) ?_
         intro v83 w84 hM a hA
         refine seq_do hA rfl rfl rfl (does_assign rfl) ?_
         intro a hA
         refine seq_end ?_
         refine hK71 _ _ ?_
         refine wp_region_lit ?_
         refine seq_do hA rfl rfl rfl (does_move rfl) ?_
         intro a hA
         refine seq_do (v := .int .i64 (((i2 + 1 : Nat) : Int))) hA rfl rfl rfl (does_bin rfl rfl (ar_add ((in_i64 (by omega) (by omega)).trans (by omega)))) ?_
         intro a hA
         refine seq_do hA rfl rfl rfl (does_assign rfl) ?_
         intro a hA
         refine seq_end ?_
         replace hM : Mg w w84 (.row 21 1 (.slice sn q cn) q ((runeV (numsL hi2 l 2 q))) :: .row 78 3 (v83) ((acc ++ [(((2 + 2 * i2 : Nat) : Int), ((n : Nat) : Int))]).length) ((unitV (acc ++ [(((2 + 2 * i2 : Nat) : Int), ((n : Nat) : Int))]))) :: []) := by
           have h9 := hM.sub (.cons _ (.cons_cons _ (.cons_cons _ (.refl _))))
           rw [unitV_snoc_good (by omega), List.length_append]
           exact h9
         refine hK66 _ _ _ (by omega) ⟨i2 + 1, acc ++ [(((2 + 2 * i2 : Nat) : Int), ((n : Nat) : Int))], v83, rfl, ⟨by rw [← hrun, pair_one (g := hi2) (l := l) (p := 2 + 2 * i2) (by omega) hn (by omega), show 2 + 2 * (i2 + 1) = 2 + 2 * i2 + 2 from by omega, List.append_assoc]; rfl, by omega, by rw [List.length_append]; simp only [List.length_cons, List.length_nil]; omega⟩, hA.keep _ ⟨rfl, rfl, rfl, rfl, rfl, rfl, rfl, rfl, rfl, rfl, rfl, rfl, rfl, rfl, rfl, rfl, rfl, rfl, rfl, rfl, rfl, rfl, rfl, rfl, rfl, rfl, rfl, rfl, rfl, rfl, rfl, rfl, rfl, rfl, rfl, rfl, rfl, rfl, rfl, rfl, rfl, rfl, rfl, rfl, trivial⟩, hM⟩
       · have hb80' := of_decide_eq_false hb80
         refine seq_do (v := .bool false) hA rfl rfl rfl (does_bin rfl rfl (fun w => (bin_gtr w).trans (by rw [hb80]))) ?_
         intro a hA
         refine seq_do (v := .bool false) hA rfl rfl rfl (does_pick rfl rfl rfl rfl) ?_
         intro a hA
         refine seq_do hA rfl rfl rfl (does_assign rfl) ?_
         intro a hA
         refine seq_end ?_
         refine hK74 _ _ ?_
         refine wp_cond_false (hA.ev rfl) ?_
         refine wp_seq_k (fun K85 hK85 => ?_)
         refine wp_region_lit ?_
         refine seq_do hA rfl rfl rfl (does_move rfl) ?_
         intro a hA
         rcases Bool.eq_false_or_eq_true (decide (((n : Nat) : Int) ≤ 56319)) with hb86 | hb86
         · have hb86' := of_decide_eq_true hb86
           refine seq_do (v := .bool true) hA rfl rfl rfl (does_bin rfl rfl (fun w => (bin_leq w).trans (by rw [hb86]))) ?_
           intro a hA
           refine seq_do hA rfl rfl rfl (does_move rfl) ?_
           intro a hA
           refine seq_do hA rfl rfl rfl (does_move rfl) ?_
           intro a hA
           refine seq_do (v := .int .i64 (((i2 + 1 : Nat) : Int))) hA rfl rfl rfl (does_bin rfl rfl (ar_add ((in_i64 (by omega) (by omega)).trans (by omega)))) ?_
           intro a hA
           refine seq_do hA rfl rfl rfl (does_move rfl) ?_
           intro a hA
           refine seq_do (v := .int .i64 (((q : Nat) : Int))) hA rfl rfl rfl (does_len Try.underlying74 rfl) ?_
           intro a hA
           rcases Bool.eq_false_or_eq_true (decide (((i2 + 1 : Nat) : Int) < ((q : Nat) : Int))) with hb87 | hb87
           · have hb87' := of_decide_eq_true hb87
             refine seq_do (v := .bool true) hA rfl rfl rfl (does_bin rfl rfl (fun w => (bin_lss w).trans (by rw [hb87]))) ?_
             intro a hA
             refine seq_do (v := .bool true) hA rfl rfl rfl (does_pick rfl rfl rfl rfl) ?_
             intro a hA
             refine seq_do hA rfl rfl rfl (does_move rfl) ?_
             intro a hA
             refine seq_do hA rfl rfl rfl (does_move rfl) ?_
             intro a hA
             refine seq_do hA rfl rfl rfl (does_move rfl) ?_
             intro a hA
             refine seq_do (v := .int .i64 (((i2 + 1 : Nat) : Int))) hA rfl rfl rfl (does_bin rfl rfl (ar_add ((in_i64 (by omega) (by omega)).trans (by omega)))) ?_
             intro a hA
             refine seq_do (v := .pointer (some ⟨gn, (i2 + 1) * 1, none⟩)) hA rfl rfl rfl (does_indexX Try.underlying74 (by kernel_rfl) rfl rfl rfl hgn (show i2 + 1 < q by omega)) ?_
             intro a hA
             obtain ⟨m9, hm9⟩ : ∃ m9 : Nat, hi2 (l.getD (2 + 2 * (i2 + 1)) 0).toNat (l.getD (2 + 2 * (i2 + 1) + 1) 0).toNat = m9 := ⟨_, rfl⟩
             have hltm9 : m9 < 65536 := hm9 ▸ hi2_lt _ _
             refine seq_do (v := .int .i32 (((m9 : Nat) : Int))) hA rfl rfl rfl (m_loadX hM 0 rfl hgn ((nums_at (g := hi2) (l := l) (f := 2) (n := q) (j := i2 + 1) (by omega)).trans (by rw [hm9])) CpD_is1_21 rfl) ?_
             intro a hA
             rcases Bool.eq_false_or_eq_true (decide (56320 ≤ ((m9 : Nat) : Int))) with hb88 | hb88
             · have hb88' := of_decide_eq_true hb88
               refine seq_do (v := .bool true) hA rfl rfl rfl (does_bin rfl rfl (fun w => (bin_geq w).trans (by rw [hb88]))) ?_
               intro a hA
               refine seq_do (v := .bool true) hA rfl rfl rfl (does_pick rfl rfl rfl rfl) ?_
               intro a hA
               refine seq_do hA rfl rfl rfl (does_move rfl) ?_
               intro a hA
               refine seq_do hA rfl rfl rfl (does_move rfl) ?_
               intro a hA
               refine seq_do hA rfl rfl rfl (does_move rfl) ?_
               intro a hA
               refine seq_do (v := .int .i64 (((i2 + 1 : Nat) : Int))) hA rfl rfl rfl (does_bin rfl rfl (ar_add ((in_i64 (by omega) (by omega)).trans (by omega)))) ?_
               intro a hA
               refine seq_do (v := .pointer (some ⟨gn, (i2 + 1) * 1, none⟩)) hA rfl rfl rfl (does_indexX Try.underlying74 (by kernel_rfl) rfl rfl rfl hgn (show i2 + 1 < q by omega)) ?_
               intro a hA
               refine seq_do (v := .int .i32 (((m9 : Nat) : Int))) hA rfl rfl rfl (m_loadX hM 0 rfl hgn ((nums_at (g := hi2) (l := l) (f := 2) (n := q) (j := i2 + 1) (by omega)).trans (by rw [hm9])) CpD_is1_21 rfl) ?_
               intro a hA
               rcases Bool.eq_false_or_eq_true (decide (((m9 : Nat) : Int) ≤ 57343)) with hb89 | hb89
               · have hb89' := of_decide_eq_true hb89
                 refine seq_do (v := .bool true) hA rfl rfl rfl (does_bin rfl rfl (fun w => (bin_leq w).trans (by rw [hb89]))) ?_
                 intro a hA
                 refine seq_do (v := .bool true) hA rfl rfl rfl (does_pick rfl rfl rfl rfl) ?_
                 intro a hA
                 refine seq_do hA rfl rfl rfl (does_assign rfl) ?_
                 intro a hA
                 refine seq_end ?_
                 refine hK85 _ _ ?_
                 refine wp_cond_true (hA.ev rfl) ?_
                 refine wp_seq_k (fun K90 hK90 => ?_)
                 refine wp_region_lit ?_
                 refine seq_do hA rfl rfl rfl (does_move rfl) ?_
                 intro a hA
                 refine seq_do hA rfl rfl rfl (does_move rfl) ?_
                 intro a hA
                 refine seq_do (v := .int .i32 (((n : Nat) : Int) - 55296)) hA rfl rfl rfl (does_bin rfl rfl (ar_sub (in_i32 (by omega) (by omega)))) ?_
                 intro a hA
                 refine seq_do (v := .int .i32 ((((n : Nat) : Int) - 55296) * 1024)) hA rfl rfl rfl (does_bin rfl rfl (ar_mul (in_i32 (by omega) (by omega)))) ?_
                 intro a hA
                 refine seq_do (v := .int .i32 (65536 + ((((n : Nat) : Int) - 55296) * 1024))) hA rfl rfl rfl (does_bin rfl rfl (ar_add (in_i32 (by omega) (by omega)))) ?_
                 intro a hA
                 refine seq_do hA rfl rfl rfl (does_move rfl) ?_
                 intro a hA
                 refine seq_do hA rfl rfl rfl (does_move rfl) ?_
                 intro a hA
                 refine seq_do (v := .int .i64 (((i2 + 1 : Nat) : Int))) hA rfl rfl rfl (does_bin rfl rfl (ar_add ((in_i64 (by omega) (by omega)).trans (by omega)))) ?_
                 intro a hA
                 refine seq_do (v := .pointer (some ⟨gn, (i2 + 1) * 1, none⟩)) hA rfl rfl rfl (does_indexX Try.underlying74 (by kernel_rfl) rfl rfl rfl hgn (show i2 + 1 < q by omega)) ?_
                 intro a hA
                 refine seq_do (v := .int .i32 (((m9 : Nat) : Int))) hA rfl rfl rfl (m_loadX hM 0 rfl hgn ((nums_at (g := hi2) (l := l) (f := 2) (n := q) (j := i2 + 1) (by omega)).trans (by rw [hm9])) CpD_is1_21 rfl) ?_
                 intro a hA
                 refine seq_do (v := .int .i32 (65536 + ((((n : Nat) : Int) - 55296) * 1024) + (((m9 : Nat) : Int)))) hA rfl rfl rfl (does_bin rfl rfl (ar_add (in_i32 (by omega) (by omega)))) ?_
                 intro a hA
                 refine seq_do (v := .int .i32 (65536 + ((((n : Nat) : Int) - 55296) * 1024) + (((m9 : Nat) : Int)) - 56320)) hA rfl rfl rfl (does_bin rfl rfl (ar_sub (in_i32 (by omega) (by omega)))) ?_
                 intro a hA
                 refine seq_do hA rfl rfl rfl (does_move rfl) ?_
                 intro a hA
                 refine seq_do (v := .agg #[.int .i32 (65536 + ((((n : Nat) : Int) - 55296) * 1024) + (((m9 : Nat) : Int)) - 56320), .bool false, .int .i64 (((2 + 2 * i2 : Nat) : Int))]) hA rfl rfl rfl (does_build rfl (fun w => by kernel_rfl)) ?_
                 intro a hA
                 refine s_litE (e := 78) (sz := 3) (m := 1) (vs := [.int .i32 (65536 + ((((n : Nat) : Int) - 55296) * 1024) + (((m9 : Nat) : Int)) - 56320), .bool false, .int .i64 (((2 + 2 * i2 : Nat) : Int))]) hA hM rfl rfl rfl (does_buildSlice rfl (by kernel_rfl)) rfl rfl (.inl (by decide)) ?_
                 intro g91 w92 hM a hA
                 refine s_appendE (e := 78) (sz := 3) (k := 2) (q := acc.length) (m := 1) (xs := (unitV acc)) (news := [.int .i32 (65536 + ((((n : Nat) : Int) - 55296) * 1024) + (((m9 : Nat) : Int)) - 56320), .bool false, .int .i64 (((2 + 2 * i2 : Nat) : Int))]) (L' := fun v93 => (.row 78 3 (.slice (some ⟨g91, 0, none⟩) 1 1) 1 ([.int .i32 (65536 + ((((n : Nat) : Int) - 55296) * 1024) + (((m9 : Nat) : Int)) - 56320), .bool false, .int .i64 (((2 + 2 * i2 : Nat) : Int))]) :: .row 21 1 (.slice sn q cn) q ((runeV (numsL hi2 l 2 q))) :: .row 78 3 (v93) (acc.length + 1) ((unitV acc) ++ [.int .i32 (65536 + ((((n : Nat) : Int) - 55296) * 1024) + (((m9 : Nat) : Int)) - 56320), .bool false, .int .i64 (((2 + 2 * i2 : Nat) : Int))]) :: [])) hA rfl rfl rfl (m_appendE (z := .agg #[.int .i32 0, .bool false, .int .i64 0]) (sz := 3) (by_ := 16) Try.underlying75 (by kernel_rfl) rfl rfl rfl hM 2 rfl rfl 0 rfl rfl rfl rfl (by omega)) (fun _ => rfl) ?_
                 intro v93 w94 hM a hA
                 refine seq_do hA rfl rfl rfl (does_assign rfl) ?_
                 intro a hA
                 refine seq_end ?_
                 refine hK90 _ _ ?_
                 refine wp_region_lit ?_
                 refine seq_do hA rfl rfl rfl (does_move rfl) ?_
                 intro a hA
                 refine seq_do (v := .int .i64 (((i2 + 1 : Nat) : Int))) hA rfl rfl rfl (does_bin rfl rfl (ar_add ((in_i64 (by omega) (by omega)).trans (by omega)))) ?_
                 intro a hA
                 refine seq_do hA rfl rfl rfl (does_assign rfl) ?_
                 intro a hA
                 refine seq_end ?_
                 refine hK71 _ _ ?_
                 refine wp_region_lit ?_
                 refine seq_do hA rfl rfl rfl (does_move rfl) ?_
                 intro a hA
                 refine seq_do (v := .int .i64 (((i2 + 1 + 1 : Nat) : Int))) hA rfl rfl rfl (does_bin rfl rfl (ar_add ((in_i64 (by omega) (by omega)).trans (by omega)))) ?_
                 intro a hA
                 refine seq_do hA rfl rfl rfl (does_assign rfl) ?_
                 intro a hA
                 refine seq_end ?_
                 replace hM : Mg w w94 (.row 21 1 (.slice sn q cn) q ((runeV (numsL hi2 l 2 q))) :: .row 78 3 (v93) ((acc ++ [(((2 + 2 * i2 : Nat) : Int), 65536 + ((((n : Nat) : Int) - 55296) * 1024) + (((m9 : Nat) : Int)) - 56320)]).length) ((unitV (acc ++ [(((2 + 2 * i2 : Nat) : Int), 65536 + ((((n : Nat) : Int) - 55296) * 1024) + (((m9 : Nat) : Int)) - 56320)]))) :: []) := by
                   have h9 := hM.sub (.cons _ (.cons_cons _ (.cons_cons _ (.refl _))))
                   rw [unitV_snoc_good (by omega), List.length_append]
                   exact h9
                 refine hK66 _ _ _ (by omega) ⟨i2 + 1 + 1, acc ++ [(((2 + 2 * i2 : Nat) : Int), 65536 + ((((n : Nat) : Int) - 55296) * 1024) + (((m9 : Nat) : Int)) - 56320)], v93, rfl, ⟨by rw [← hrun, pair_two (g := hi2) (l := l) (p := 2 + 2 * i2) (by omega) hn (show hi2 (l.getD (2 + 2 * i2 + 2) 0).toNat (l.getD (2 + 2 * i2 + 3) 0).toNat = m9 from hm9) (by omega) (by omega) (by omega) (by omega), show 2 + 2 * (i2 + 1 + 1) = 2 + 2 * i2 + 4 from by omega, List.append_assoc]; rfl, by omega, by rw [List.length_append]; simp only [List.length_cons, List.length_nil]; omega⟩, hA.keep _ ⟨rfl, rfl, rfl, rfl, rfl, rfl, rfl, rfl, rfl, rfl, rfl, rfl, rfl, rfl, rfl, rfl, rfl, rfl, rfl, rfl, rfl, rfl, rfl, rfl, rfl, rfl, rfl, rfl, rfl, rfl, rfl, rfl, rfl, rfl, rfl, rfl, rfl, rfl, rfl, rfl, rfl, rfl, rfl, rfl, trivial⟩, hM⟩
               · have hb89' := of_decide_eq_false hb89
                 refine seq_do (v := .bool false) hA rfl rfl rfl (does_bin rfl rfl (fun w => (bin_leq w).trans (by rw [hb89]))) ?_
                 intro a hA
                 refine seq_do (v := .bool false) hA rfl rfl rfl (does_pick rfl rfl rfl rfl) ?_
                 intro a hA
                 refine seq_do hA rfl rfl rfl (does_assign rfl) ?_
                 intro a hA
                 refine seq_end ?_
                 refine hK85 _ _ ?_
                 refine wp_cond_false (hA.ev rfl) ?_
                 refine wp_region_lit ?_
                 refine seq_do hA rfl rfl rfl (does_move rfl) ?_
                 intro a hA
                 refine seq_do hA rfl rfl rfl (does_move rfl) ?_
                 intro a hA
                 refine seq_do (v := .agg #[.int .i32 0, .bool true, .int .i64 (((2 + 2 * i2 : Nat) : Int))]) hA rfl rfl rfl (does_build rfl (fun w => by kernel_rfl)) ?_
                 intro a hA
                 refine s_litE (e := 78) (sz := 3) (m := 1) (vs := [.int .i32 0, .bool true, .int .i64 (((2 + 2 * i2 : Nat) : Int))]) hA hM rfl rfl rfl (does_buildSlice rfl (by kernel_rfl)) rfl rfl (.inl (by decide)) ?_
                 intro g95 w96 hM a hA
                 refine s_appendE (e := 78) (sz := 3) (k := 2) (q := acc.length) (m := 1) (xs := (unitV acc)) (news := [.int .i32 0, .bool true, .int .i64 (((2 + 2 * i2 : Nat) : Int))]) (L' := fun v97 => (.row 78 3 (.slice (some ⟨g95, 0, none⟩) 1 1) 1 ([.int .i32 0, .bool true, .int .i64 (((2 + 2 * i2 : Nat) : Int))]) :: .row 21 1 (.slice sn q cn) q ((runeV (numsL hi2 l 2 q))) :: .row 78 3 (v97) (acc.length + 1) ((unitV acc) ++ [.int .i32 0, .bool true, .int .i64 (((2 + 2 * i2 : Nat) : Int))]) :: [])) hA rfl rfl rfl (m_appendE (z := .agg #[.int .i32 0, .bool false, .int .i64 0]) (sz := 3) (by_ := 16) Try.underlying75 (by kernel_rfl) rfl rfl rfl hM 2 rfl rfl 0 rfl rfl rfl rfl (by omega)) (fun _ => rfl) ?_
                 intro v97 w98 hM a hA
                 refine seq_do hA rfl rfl rfl (does_assign rfl) ?_
                 intro a hA
                 refine seq_end ?_
                 refine hK71 _ _ ?_
                 refine wp_region_lit ?_
                 refine seq_do hA rfl rfl rfl (does_move rfl) ?_
                 intro a hA
                 refine seq_do (v := .int .i64 (((i2 + 1 : Nat) : Int))) hA rfl rfl rfl (does_bin rfl rfl (ar_add ((in_i64 (by omega) (by omega)).trans (by omega)))) ?_
                 intro a hA
                 refine seq_do hA rfl rfl rfl (does_assign rfl) ?_
                 intro a hA
                 refine seq_end ?_
                 replace hM : Mg w w98 (.row 21 1 (.slice sn q cn) q ((runeV (numsL hi2 l 2 q))) :: .row 78 3 (v97) ((acc ++ [(((2 + 2 * i2 : Nat) : Int), -1)]).length) ((unitV (acc ++ [(((2 + 2 * i2 : Nat) : Int), -1)]))) :: []) := by
                   have h9 := hM.sub (.cons _ (.cons_cons _ (.cons_cons _ (.refl _))))
                   rw [unitV_snoc_bad, List.length_append]
                   exact h9
                 refine hK66 _ _ _ (by omega) ⟨i2 + 1, acc ++ [(((2 + 2 * i2 : Nat) : Int), -1)], v97, rfl, ⟨by rw [← hrun, pair_bad (g := hi2) (l := l) (p := 2 + 2 * i2) (by omega) hn (by omega) (by omega) (fun _ _ => by rw [show hi2 (l.getD (2 + 2 * i2 + 2) 0).toNat (l.getD (2 + 2 * i2 + 3) 0).toNat = m9 from hm9]; omega), show 2 + 2 * (i2 + 1) = 2 + 2 * i2 + 2 from by omega, List.append_assoc]; rfl, by omega, by rw [List.length_append]; simp only [List.length_cons, List.length_nil]; omega⟩, hA.keep _ ⟨rfl, rfl, rfl, rfl, rfl, rfl, rfl, rfl, rfl, rfl, rfl, rfl, rfl, rfl, rfl, rfl, rfl, rfl, rfl, rfl, rfl, rfl, rfl, rfl, rfl, rfl, rfl, rfl, rfl, rfl, rfl, rfl, rfl, rfl, rfl, rfl, rfl, rfl, rfl, rfl, rfl, rfl, rfl, rfl, trivial⟩, hM⟩
             · have hb88' := of_decide_eq_false hb88
               refine seq_do (v := .bool false) hA rfl rfl rfl (does_bin rfl rfl (fun w => (bin_geq w).trans (by rw [hb88]))) ?_
               intro a hA
               refine seq_do (v := .bool false) hA rfl rfl rfl (does_pick rfl rfl rfl rfl) ?_
               intro a hA
               refine seq_do hA rfl rfl rfl (does_move rfl) ?_
               intro a hA
               refine seq_skip hA rfl rfl rfl ?_
               intro a hA
               refine seq_skip hA rfl rfl rfl ?_
               intro a hA
               refine seq_skip hA rfl rfl rfl ?_
               intro a hA
               refine seq_skip hA rfl rfl rfl ?_
               intro a hA
               refine seq_skip hA rfl rfl rfl ?_
               intro a hA
               refine seq_skip hA rfl rfl rfl ?_
               intro a hA
               refine seq_do (v := .bool false) hA rfl rfl rfl (does_pick rfl rfl rfl rfl) ?_
               intro a hA
               refine seq_do hA rfl rfl rfl (does_assign rfl) ?_
               intro a hA
               refine seq_end ?_
               refine hK85 _ _ ?_
               refine wp_cond_false (hA.ev rfl) ?_
               refine wp_region_lit ?_
               refine seq_do hA rfl rfl rfl (does_move rfl) ?_
               intro a hA
               refine seq_do hA rfl rfl rfl (does_move rfl) ?_
               intro a hA
               refine seq_do (v := .agg #[.int .i32 0, .bool true, .int .i64 (((2 + 2 * i2 : Nat) : Int))]) hA rfl rfl rfl (does_build rfl (fun w => by kernel_rfl)) ?_
               intro a hA
               refine s_litE (e := 78) (sz := 3) (m := 1) (vs := [.int .i32 0, .bool true, .int .i64 (((2 + 2 * i2 : Nat) : Int))]) hA hM rfl rfl rfl (does_buildSlice rfl (by kernel_rfl)) rfl rfl (.inl (by decide)) ?_
               intro g99 w100 hM a hA
               refine s_appendE (e := 78) (sz := 3) (k := 2) (q := acc.length) (m := 1) (xs := (unitV acc)) (news := [.int .i32 0, .bool true, .int .i64 (((2 + 2 * i2 : Nat) : Int))]) (L' := fun v101 => (.row 78 3 (.slice (some ⟨g99, 0, none⟩) 1 1) 1 ([.int .i32 0, .bool true, .int .i64 (((2 + 2 * i2 : Nat) : Int))]) :: .row 21 1 (.slice sn q cn) q ((runeV (numsL hi2 l 2 q))) :: .row 78 3 (v101) (acc.length + 1) ((unitV acc) ++ [.int .i32 0, .bool true, .int .i64 (((2 + 2 * i2 : Nat) : Int))]) :: [])) hA rfl rfl rfl (m_appendE (z := .agg #[.int .i32 0, .bool false, .int .i64 0]) (sz := 3) (by_ := 16) Try.underlying75 (by kernel_rfl) rfl rfl rfl hM 2 rfl rfl 0 rfl rfl rfl rfl (by omega)) (fun _ => rfl) ?_
               intro v101 w102 hM a hA
               refine seq_do hA rfl rfl rfl (does_assign rfl) ?_
               intro a hA
               refine seq_end ?_
               refine hK71 _ _ ?_
               refine wp_region_lit ?_
               refine seq_do hA rfl rfl rfl (does_move rfl) ?_
               intro a hA
               refine seq_do (v := .int .i64 (((i2 + 1 : Nat) : Int))) hA rfl rfl rfl (does_bin rfl rfl (ar_add ((in_i64 (by omega) (by omega)).trans (by omega)))) ?_
               intro a hA
               refine seq_do hA rfl rfl rfl (does_assign rfl) ?_
               intro a hA
               refine seq_end ?_
               replace hM : Mg w w102 (.row 21 1 (.slice sn q cn) q ((runeV (numsL hi2 l 2 q))) :: .row 78 3 (v101) ((acc ++ [(((2 + 2 * i2 : Nat) : Int), -1)]).length) ((unitV (acc ++ [(((2 + 2 * i2 : Nat) : Int), -1)]))) :: []) := by
                 have h9 := hM.sub (.cons _ (.cons_cons _ (.cons_cons _ (.refl _))))
                 rw [unitV_snoc_bad, List.length_append]
                 exact h9
               refine hK66 _ _ _ (by omega) ⟨i2 + 1, acc ++ [(((2 + 2 * i2 : Nat) : Int), -1)], v101, rfl, ⟨by rw [← hrun, pair_bad (g := hi2) (l := l) (p := 2 + 2 * i2) (by omega) hn (by omega) (by omega) (fun _ _ => by rw [show hi2 (l.getD (2 + 2 * i2 + 2) 0).toNat (l.getD (2 + 2 * i2 + 3) 0).toNat = m9 from hm9]; omega), show 2 + 2 * (i2 + 1) = 2 + 2 * i2 + 2 from by omega, List.append_assoc]; rfl, by omega, by rw [List.length_append]; simp only [List.length_cons, List.length_nil]; omega⟩, hA.keep _ ⟨rfl, rfl, rfl, rfl, rfl, rfl, rfl, rfl, rfl, rfl, rfl, rfl, rfl, rfl, rfl, rfl, rfl, rfl, rfl, rfl, rfl, rfl, rfl, rfl, rfl, rfl, rfl, rfl, rfl, rfl, rfl, rfl, rfl, rfl, rfl, rfl, rfl, rfl, rfl, rfl, rfl, rfl, rfl, rfl, trivial⟩, hM⟩
           · have hb87' := of_decide_eq_false hb87
             refine seq_do (v := .bool false) hA rfl rfl rfl (does_bin rfl rfl (fun w => (bin_lss w).trans (by rw [hb87]))) ?_
             intro a hA
             refine seq_do (v := .bool false) hA rfl rfl rfl (does_pick rfl rfl rfl rfl) ?_
             intro a hA
             refine seq_do hA rfl rfl rfl (does_move rfl) ?_
             intro a hA
             refine seq_skip hA rfl rfl rfl ?_
             intro a hA
             refine seq_skip hA rfl rfl rfl ?_
             intro a hA
             refine seq_skip hA rfl rfl rfl ?_
             intro a hA
             refine seq_skip hA rfl rfl rfl ?_
             intro a hA
             refine seq_skip hA rfl rfl rfl ?_
             intro a hA
             refine seq_skip hA rfl rfl rfl ?_
             intro a hA
             refine seq_do (v := .bool false) hA rfl rfl rfl (does_pick rfl rfl rfl rfl) ?_
             intro a hA
             refine seq_do hA rfl rfl rfl (does_move rfl) ?_
             intro a hA
             refine seq_skip hA rfl rfl rfl ?_
             intro a hA
             refine seq_skip hA rfl rfl rfl ?_
             intro a hA
             refine seq_skip hA rfl rfl rfl ?_
             intro a hA
             refine seq_skip hA rfl rfl rfl ?_
             intro a hA
             refine seq_skip hA rfl rfl rfl ?_
             intro a hA
             refine seq_skip hA rfl rfl rfl ?_
             intro a hA
             refine seq_do (v := .bool false) hA rfl rfl rfl (does_pick rfl rfl rfl rfl) ?_
             intro a hA
             refine seq_do hA rfl rfl rfl (does_assign rfl) ?_
             intro a hA
             refine seq_end ?_
             refine hK85 _ _ ?_
             refine wp_cond_false (hA.ev rfl) ?_
             refine wp_region_lit ?_
             refine seq_do hA rfl rfl rfl (does_move rfl) ?_
             intro a hA
             refine seq_do hA rfl rfl rfl (does_move rfl) ?_
             intro a hA
             refine seq_do (v := .agg #[.int .i32 0, .bool true, .int .i64 (((2 + 2 * i2 : Nat) : Int))]) hA rfl rfl rfl (does_build rfl (fun w => by kernel_rfl)) ?_
             intro a hA
             refine s_litE (e := 78) (sz := 3) (m := 1) (vs := [.int .i32 0, .bool true, .int .i64 (((2 + 2 * i2 : Nat) : Int))]) hA hM rfl rfl rfl (does_buildSlice rfl (by kernel_rfl)) rfl rfl (.inl (by decide)) ?_
             intro g103 w104 hM a hA
             refine s_appendE (e := 78) (sz := 3) (k := 2) (q := acc.length) (m := 1) (xs := (unitV acc)) (news := [.int .i32 0, .bool true, .int .i64 (((2 + 2 * i2 : Nat) : Int))]) (L' := fun v105 => (.row 78 3 (.slice (some ⟨g103, 0, none⟩) 1 1) 1 ([.int .i32 0, .bool true, .int .i64 (((2 + 2 * i2 : Nat) : Int))]) :: .row 21 1 (.slice sn q cn) q ((runeV (numsL hi2 l 2 q))) :: .row 78 3 (v105) (acc.length + 1) ((unitV acc) ++ [.int .i32 0, .bool true, .int .i64 (((2 + 2 * i2 : Nat) : Int))]) :: [])) hA rfl rfl rfl (m_appendE (z := .agg #[.int .i32 0, .bool false, .int .i64 0]) (sz := 3) (by_ := 16) Try.underlying75 (by kernel_rfl) rfl rfl rfl hM 2 rfl rfl 0 rfl rfl rfl rfl (by omega)) (fun _ => rfl) ?_
             intro v105 w106 hM a hA
             refine seq_do hA rfl rfl rfl (does_assign rfl) ?_
             intro a hA
             refine seq_end ?_
             refine hK71 _ _ ?_
             refine wp_region_lit ?_
             refine seq_do hA rfl rfl rfl (does_move rfl) ?_
             intro a hA
             refine seq_do (v := .int .i64 (((i2 + 1 : Nat) : Int))) hA rfl rfl rfl (does_bin rfl rfl (ar_add ((in_i64 (by omega) (by omega)).trans (by omega)))) ?_
             intro a hA
             refine seq_do hA rfl rfl rfl (does_assign rfl) ?_
             intro a hA
             refine seq_end ?_
             replace hM : Mg w w106 (.row 21 1 (.slice sn q cn) q ((runeV (numsL hi2 l 2 q))) :: .row 78 3 (v105) ((acc ++ [(((2 + 2 * i2 : Nat) : Int), -1)]).length) ((unitV (acc ++ [(((2 + 2 * i2 : Nat) : Int), -1)]))) :: []) := by
               have h9 := hM.sub (.cons _ (.cons_cons _ (.cons_cons _ (.refl _))))
               rw [unitV_snoc_bad, List.length_append]
               exact h9
             refine hK66 _ _ _ (by omega) ⟨i2 + 1, acc ++ [(((2 + 2 * i2 : Nat) : Int), -1)], v105, rfl, ⟨by rw [← hrun, pair_bad (g := hi2) (l := l) (p := 2 + 2 * i2) (by omega) hn (by omega) (by omega) (fun _ _ => by exfalso; omega), show 2 + 2 * (i2 + 1) = 2 + 2 * i2 + 2 from by omega, List.append_assoc]; rfl, by omega, by rw [List.length_append]; simp only [List.length_cons, List.length_nil]; omega⟩, hA.keep _ ⟨rfl, rfl, rfl, rfl, rfl, rfl, rfl, rfl, rfl, rfl, rfl, rfl, rfl, rfl, rfl, rfl, rfl, rfl, rfl, rfl, rfl, rfl, rfl, rfl, rfl, rfl, rfl, rfl, rfl, rfl, rfl, rfl, rfl, rfl, rfl, rfl, rfl, rfl, rfl, rfl, rfl, rfl, rfl, rfl, trivial⟩, hM⟩
         · have hb86' := of_decide_eq_false hb86
           refine seq_do (v := .bool false) hA rfl rfl rfl (does_bin rfl rfl (fun w => (bin_leq w).trans (by rw [hb86]))) ?_
           intro a hA
           refine seq_do hA rfl rfl rfl (does_move rfl) ?_
           intro a hA
           refine seq_skip hA rfl rfl rfl ?_
           intro a hA
           refine seq_skip hA rfl rfl rfl ?_
           intro a hA
           refine seq_skip hA rfl rfl rfl ?_
           intro a hA
           refine seq_skip hA rfl rfl rfl ?_
           intro a hA
           refine seq_skip hA rfl rfl rfl ?_
           intro a hA
           refine seq_do (v := .bool false) hA rfl rfl rfl (does_pick rfl rfl rfl rfl) ?_
           intro a hA
           refine seq_do hA rfl rfl rfl (does_move rfl) ?_
           intro a hA
           refine seq_skip hA rfl rfl rfl ?_
           intro a hA
           refine seq_skip hA rfl rfl rfl ?_
           intro a hA
           refine seq_skip hA rfl rfl rfl ?_
           intro a hA
           refine seq_skip hA rfl rfl rfl ?_
           intro a hA
           refine seq_skip hA rfl rfl rfl ?_
           intro a hA
           refine seq_skip hA rfl rfl rfl ?_
           intro a hA
           refine seq_do (v := .bool false) hA rfl rfl rfl (does_pick rfl rfl rfl rfl) ?_
           intro a hA
           refine seq_do hA rfl rfl rfl (does_move rfl) ?_
           intro a hA
           refine seq_skip hA rfl rfl rfl ?_
           intro a hA
           refine seq_skip hA rfl rfl rfl ?_
           intro a hA
           refine seq_skip hA rfl rfl rfl ?_
           intro a hA
           refine seq_skip hA rfl rfl rfl ?_
           intro a hA
           refine seq_skip hA rfl rfl rfl ?_
           intro a hA
           refine seq_skip hA rfl rfl rfl ?_
           intro a hA
           refine seq_do (v := .bool false) hA rfl rfl rfl (does_pick rfl rfl rfl rfl) ?_
           intro a hA
           refine seq_do hA rfl rfl rfl (does_assign rfl) ?_
           intro a hA
           refine seq_end ?_
           refine hK85 _ _ ?_
           refine wp_cond_false (hA.ev rfl) ?_
           refine wp_region_lit ?_
           refine seq_do hA rfl rfl rfl (does_move rfl) ?_
           intro a hA
           refine seq_do hA rfl rfl rfl (does_move rfl) ?_
           intro a hA
           refine seq_do (v := .agg #[.int .i32 0, .bool true, .int .i64 (((2 + 2 * i2 : Nat) : Int))]) hA rfl rfl rfl (does_build rfl (fun w => by kernel_rfl)) ?_
           intro a hA
           refine s_litE (e := 78) (sz := 3) (m := 1) (vs := [.int .i32 0, .bool true, .int .i64 (((2 + 2 * i2 : Nat) : Int))]) hA hM rfl rfl rfl (does_buildSlice rfl (by kernel_rfl)) rfl rfl (.inl (by decide)) ?_
           intro g107 w108 hM a hA
           refine s_appendE (e := 78) (sz := 3) (k := 2) (q := acc.length) (m := 1) (xs := (unitV acc)) (news := [.int .i32 0, .bool true, .int .i64 (((2 + 2 * i2 : Nat) : Int))]) (L' := fun v109 => (.row 78 3 (.slice (some ⟨g107, 0, none⟩) 1 1) 1 ([.int .i32 0, .bool true, .int .i64 (((2 + 2 * i2 : Nat) : Int))]) :: .row 21 1 (.slice sn q cn) q ((runeV (numsL hi2 l 2 q))) :: .row 78 3 (v109) (acc.length + 1) ((unitV acc) ++ [.int .i32 0, .bool true, .int .i64 (((2 + 2 * i2 : Nat) : Int))]) :: [])) hA rfl rfl rfl (m_appendE (z := .agg #[.int .i32 0, .bool false, .int .i64 0]) (sz := 3) (by_ := 16) Try.underlying75 (by kernel_rfl) rfl rfl rfl hM 2 rfl rfl 0 rfl rfl rfl rfl (by omega)) (fun _ => rfl) ?_
           intro v109 w110 hM a hA
           refine seq_do hA rfl rfl rfl (does_assign rfl) ?_
           intro a hA
           refine seq_end ?_
           refine hK71 _ _ ?_
           refine wp_region_lit ?_
           refine seq_do hA rfl rfl rfl (does_move rfl) ?_
           intro a hA
           refine seq_do (v := .int .i64 (((i2 + 1 : Nat) : Int))) hA rfl rfl rfl (does_bin rfl rfl (ar_add ((in_i64 (by omega) (by omega)).trans (by omega)))) ?_
           intro a hA
           refine seq_do hA rfl rfl rfl (does_assign rfl) ?_
           intro a hA
           refine seq_end ?_
           replace hM : Mg w w110 (.row 21 1 (.slice sn q cn) q ((runeV (numsL hi2 l 2 q))) :: .row 78 3 (v109) ((acc ++ [(((2 + 2 * i2 : Nat) : Int), -1)]).length) ((unitV (acc ++ [(((2 + 2 * i2 : Nat) : Int), -1)]))) :: []) := by
             have h9 := hM.sub (.cons _ (.cons_cons _ (.cons_cons _ (.refl _))))
             rw [unitV_snoc_bad, List.length_append]
             exact h9
           refine hK66 _ _ _ (by omega) ⟨i2 + 1, acc ++ [(((2 + 2 * i2 : Nat) : Int), -1)], v109, rfl, ⟨by rw [← hrun, pair_bad (g := hi2) (l := l) (p := 2 + 2 * i2) (by omega) hn (by omega) (by omega) (fun _ _ => by exfalso; omega), show 2 + 2 * (i2 + 1) = 2 + 2 * i2 + 2 from by omega, List.append_assoc]; rfl, by omega, by rw [List.length_append]; simp only [List.length_cons, List.length_nil]; omega⟩, hA.keep _ ⟨rfl, rfl, rfl, rfl, rfl, rfl, rfl, rfl, rfl, rfl, rfl, rfl, rfl, rfl, rfl, rfl, rfl, rfl, rfl, rfl, rfl, rfl, rfl, rfl, rfl, rfl, rfl, rfl, rfl, rfl, rfl, rfl, rfl, rfl, rfl, rfl, rfl, rfl, rfl, rfl, rfl, rfl, rfl, rfl, trivial⟩, hM⟩
   · have hb70' := of_decide_eq_false hb70
     refine seq_do (v := .bool false) hA rfl rfl rfl (does_bin rfl rfl (fun w => (bin_lss w).trans (by rw [hb70]))) ?_
     intro a hA
     refine seq_end ?_
     refine hK69 _ _ ?_
     refine wp_cond_false (hA.ev rfl) ?_
     refine wp_exit ?_
     refine hK63 _ _ ?_
     refine wp_seq_k (fun K111 hK111 => ?_)
     refine wp_seq_k (fun K112 hK112 => ?_)
     refine wp_region_lit ?_
     refine seq_do hA rfl rfl rfl (does_move rfl) ?_
     intro a hA
     refine seq_do (v := .int .i64 (((l.length : Nat) : Int))) hA rfl rfl rfl (does_len Try.underlying24 rfl) ?_
     intro a hA
     refine seq_do hA rfl rfl rfl (does_move rfl) ?_
     intro a hA
     refine seq_do (v := .int .i64 ((((l.length) - 2 : Nat) : Int))) hA rfl rfl rfl (does_bin rfl rfl (ar_sub ((in_i64 (by omega) (by omega)).trans (by omega)))) ?_
     intro a hA
     refine seq_do (v := .int .i64 (((((l.length) - 2) % 2 : Nat) : Int))) hA rfl rfl rfl (does_bin rfl rfl (ar_rem (by decide) ((Int.tmod_eq_emod_of_nonneg (by omega)).trans (by omega)))) ?_
     intro a hA
     rcases Bool.eq_false_or_eq_true ((((((l.length) - 2) % 2 : Nat) : Int) == 1)) with hb113 | hb113
     · have hb113' := eq_of_beq hb113
       refine seq_do (v := .bool true) hA rfl rfl rfl (does_bin rfl rfl (fun w => (bin_eql w).trans (by rw [hb113]))) ?_
       intro a hA
       refine seq_end ?_
       refine hK112 _ _ ?_
       refine wp_cond_true (hA.ev rfl) ?_
       refine wp_region_lit ?_
       refine seq_do hA rfl rfl rfl (does_move rfl) ?_
       intro a hA
       refine seq_do hA rfl rfl rfl (does_move rfl) ?_
       intro a hA
       refine seq_do (v := .int .i64 (((l.length : Nat) : Int))) hA rfl rfl rfl (does_len Try.underlying24 rfl) ?_
       intro a hA
       refine seq_do (v := .int .i64 ((((l.length) - 1 : Nat) : Int))) hA rfl rfl rfl (does_bin rfl rfl (ar_sub ((in_i64 (by omega) (by omega)).trans (by omega)))) ?_
       intro a hA
       refine seq_do (v := .agg #[.int .i32 0, .bool true, .int .i64 ((((l.length) - 1 : Nat) : Int))]) hA rfl rfl rfl (does_build rfl (fun w => by kernel_rfl)) ?_
       intro a hA
       refine s_litE (e := 78) (sz := 3) (m := 1) (vs := [.int .i32 0, .bool true, .int .i64 ((((l.length) - 1 : Nat) : Int))]) hA hM rfl rfl rfl (does_buildSlice rfl (by kernel_rfl)) rfl rfl (.inl (by decide)) ?_
       intro g114 w115 hM a hA
       refine s_appendE (e := 78) (sz := 3) (k := 2) (q := acc.length) (m := 1) (xs := (unitV acc)) (news := [.int .i32 0, .bool true, .int .i64 ((((l.length) - 1 : Nat) : Int))]) (L' := fun v116 => (.row 78 3 (.slice (some ⟨g114, 0, none⟩) 1 1) 1 ([.int .i32 0, .bool true, .int .i64 ((((l.length) - 1 : Nat) : Int))]) :: .row 21 1 (.slice sn q cn) q ((runeV (numsL hi2 l 2 q))) :: .row 78 3 (v116) (acc.length + 1) ((unitV acc) ++ [.int .i32 0, .bool true, .int .i64 ((((l.length) - 1 : Nat) : Int))]) :: [])) hA rfl rfl rfl (m_appendE (z := .agg #[.int .i32 0, .bool false, .int .i64 0]) (sz := 3) (by_ := 16) Try.underlying75 (by kernel_rfl) rfl rfl rfl hM 2 rfl rfl 0 rfl rfl rfl rfl (by omega)) (fun _ => rfl) ?_
       intro v116 w117 hM a hA
       refine seq_do hA rfl rfl rfl (does_assign rfl) ?_
       intro a hA
       refine seq_end ?_
       refine hK111 _ _ ?_
       refine wp_seq_k (fun K118 hK118 => ?_)
       refine wp_region_lit ?_
       refine seq_do hA rfl rfl rfl (does_move rfl) ?_
       intro a hA
       refine seq_do hA rfl rfl rfl (does_assign rfl) ?_
       intro a hA
       refine seq_end ?_
       refine hK118 _ _ ?_
       refine wp_ret ?_
       refine hret _ _ ?_
       refine ends (v := v116) hA rfl (.cons (res_tmp rfl) .nil) rfl ?_
       replace hM : Mg w w117 (.row 21 1 (.slice sn q cn) q ((runeV (numsL hi2 l 2 q))) :: .row 78 3 (v116) ((acc ++ [((((l.length) - 1 : Nat) : Int), -1)]).length) ((unitV (acc ++ [((((l.length) - 1 : Nat) : Int), -1)]))) :: []) := by
         have h9 := hM.sub (.cons _ (.cons_cons _ (.cons_cons _ (.refl _))))
         rw [unitV_snoc_bad, List.length_append]
         exact h9
       have he9 := pair_end (g := hi2) (l := l) (p := 2 + 2 * i2) (by omega)
       rw [he9, show ((2 + 2 * i2 : Nat) : Int) = (((l.length) - 1 : Nat) : Int) from by omega] at hrun
       rw [← hrun]
       exact ⟨_, rfl, hM.sub (.cons _ (.cons_cons _ (.refl _)))⟩
     · have hb113' := ne_of_beq_false hb113
       refine seq_do (v := .bool false) hA rfl rfl rfl (does_bin rfl rfl (fun w => (bin_eql w).trans (by rw [hb113]))) ?_
       intro a hA
       refine seq_end ?_
       refine hK112 _ _ ?_
       refine wp_cond_false (hA.ev rfl) ?_
       refine wp_skip ?_
       refine hK111 _ _ ?_
       refine wp_seq_k (fun K119 hK119 => ?_)
       refine wp_region_lit ?_
       refine seq_do hA rfl rfl rfl (does_move rfl) ?_
       intro a hA
       refine seq_do hA rfl rfl rfl (does_assign rfl) ?_
       intro a hA
       refine seq_end ?_
       refine hK119 _ _ ?_
       refine wp_ret ?_
       refine hret _ _ ?_
       refine ends (v := vo) hA rfl (.cons (res_tmp rfl) .nil) rfl ?_
       rw [restW_over (by omega), List.append_nil] at hrun
       subst hrun
       exact ⟨_, rfl, hM.sub (.cons _ (.cons_cons _ (.refl _)))⟩
end Go.Proofs.Ytcjgjbaadmohbaa
